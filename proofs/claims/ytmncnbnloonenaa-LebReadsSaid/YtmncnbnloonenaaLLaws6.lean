/- LebTexts, walked. -/
import Derived.Test.YtmncnbnloonenaaLLaws2
import Derived.Test.YtmncnbnloonenaaKRows
import Derived.Deep.QuietTactic
import Derived.BigQuiet
namespace Go.Proofs.Ytmncnbnloonenaa
open Go.RowKit Go.Maps Go.WideMaps Go.Shelf

def texB (L : List Nm) : Nm := L.flatMap fun t => putL t.length ++ t
theorem texB_snoc (L : List Nm) (x : Nm) : texB (L ++ [x]) = texB L ++ putL x.length ++ x := by simp [texB]
theorem texB_app (L M : List Nm) : texB (L ++ M) = texB L ++ texB M := by simp [texB]
theorem take_snoc' {α : Type} {l : List α} {k : Nat} {x : α} (h : l[k]? = some x) : l.take (k + 1) = l.take k ++ [x] := by
  rw [List.take_add_one, h]
  rfl
theorem tex_read {L : List Nm} {k : Nat} {x : Nm} (hx : L[k]? = some x) (hl : x.length ≤ 50000) :
    rText ⟨texB L, (texB (L.take k)).length, 0⟩ 100000 = (x, ⟨texB L, (texB (L.take (k + 1))).length, 0⟩) := by
  have h1 : L = L.take k ++ (x :: L.drop (k + 1)) := by
    obtain ⟨h2, h3⟩ := List.getElem?_eq_some_iff.1 hx
    rw [← h3, List.getElem_cons_drop, List.take_append_drop]
  have h2 : texB L = texB (L.take k) ++ (putL x.length ++ (x ++ texB (L.drop (k + 1)))) := by
    conv => lhs; rw [h1]
    rw [texB_app]
    congr 1
    simp [texB]
  have h3 : (texB L).drop (texB (L.take k)).length = putL x.length ++ (x ++ texB (L.drop (k + 1))) := by
    conv => lhs; rw [h2]
    simp
  have h4 := getL_put (n := x.length) (by omega) (x ++ texB (L.drop (k + 1)))
  rw [take_snoc' hx, texB_snoc, List.length_append, List.length_append]
  have h5 : rInt ⟨texB L, (texB (L.take k)).length, 0⟩ 100000 = ((x.length : Int), ⟨texB L, (texB (L.take k)).length + (putL x.length).length, 0⟩) := by
    unfold rInt
    simp only [h3, h4]
    rw [if_neg (by simp), if_neg (by simp), if_neg (by omega)]
  unfold rText
  rw [h5]
  unfold rBytes
  simp only
  by_cases h0 : x.length = 0
  · rw [if_pos (.inr (by omega)), h0, List.eq_nil_of_length_eq_zero h0]
    simp
  · have h6 : (texB L).length = (texB (L.take k)).length + ((putL x.length).length + (x.length + (texB (L.drop (k + 1))).length)) := by
      conv => lhs; rw [h2]
      simp
    rw [if_neg (by rintro (h | h) <;> omega), if_neg (by omega), Int.toNat_natCast]
    have h7 : (texB L).drop ((texB (L.take k)).length + (putL x.length).length) = x ++ texB (L.drop (k + 1)) := by
      rw [← List.drop_drop, h3]
      simp
    rw [h7]
    simp
theorem tex_end (L : List Nm) : rInt ⟨texB L, (texB L).length, 0⟩ 9 = (0, ⟨texB L, (texB L).length, 31⟩) := by
  have h : getL ([] : List UInt8) = (0, 0, 31) := rfl
  unfold rInt
  simp [h]
theorem IsR.drewN {w : World} {b : Nat} {g : Nat → Prop} {s : Rd} (h : IsR w b g s) (q : Nat) : IsR (w.drewN q) b g s := h.kept (F := fun _ => False) ((Kept.refl _ w).drewN q) (fun h => h) (fun _ _ h => h)

set_option maxHeartbeats 8000000 in
set_option maxRecDepth 100000 in
theorem lebTexts_any (w : World) (A : Option Addr) (n c : Nat) (L : List Nm) (hL : RowsSee w A n L) :
    Calls Try.prog 9 #[.slice A n c] w fun e w' => e = .returned (.bool true) ∧ Below w.heap.size w w' := by
  have HL := Lib.hid hL
  have hln := hL.len
  have n63 : n ≤ 9223372036854775807 := hL.fit
  have HLN := Lib.hid hln
  obtain ⟨i0, hi, hz0, hz1, hz2⟩ := info_parts byteInfo
  clear hL hln
  go_enter Try.func9, Try.ntmps9
  go_wp2_with fail
  refine (lebHead_any w).mono ?_
  rintro e w1 ⟨rfl, hb⟩
  have B1 := Lib.hid hb
  clear hb
  go_wp2
  go_loopw [4, 5] (fun v i wr => ∃ k : Nat, k ≤ n ∧ i = .int .i64 k ∧ (texB (L.take k)).length ≤ 150010 ∧ (∀ j x, j < k → L[j]? = some x → x.length ≤ 50000) ∧ Below w.heap.size w wr ∧ wr.ownsRow w.heap.size 5 1 v (texB (L.take k)).length ((texB (L.take k)).map byteV)) (fun _ i _ => n - (intOf i).toNat)
  case atStart => exact ⟨0, by omega, rfl, by simp [texB], fun j x h => by omega, B1.out, ⟨rfl, .inl ⟨rfl, rfl⟩⟩⟩
  case round =>
    clear B1
    obtain ⟨k, hk, rfl, ht, hsm, hB, hO⟩ := hrel
    have HB := Lib.hid hB
    have HO := Lib.hid hO
    have HSM := Lib.hid hsm
    clear hB hO hsm
    obtain ⟨T, hT⟩ : ∃ T, T = texB (L.take k) := ⟨_, rfl⟩
    obtain ⟨t, htl⟩ : ∃ t, t = T.length := ⟨_, rfl⟩
    rw [← hT, ← htl] at HO
    rw [← hT, ← htl] at ht
    have HT := Lib.hid hT
    have HTL := Lib.hid htl
    clear hT htl
    obtain ⟨Av, cv, hv⟩ := own_slice HO.out
    subst hv
    rcases Nat.lt_or_ge k n with hlt | hge
    · have hlt' : (k : Int) < (n : Int) := by omega
      have p0 : (0 : Int) ≤ (k : Int) := by omega
      by_cases hbig : 100000 ≤ t
      · have hbz : ¬ (t : Int) < 100000 := by omega
        have hbz2 : (100000 : Int) ≤ (t : Int) := by omega
        go_wp2
        go_ret
        exact ⟨rfl, HB.out⟩
      have hbz : (t : Int) < 100000 := by omega
      obtain ⟨x, hx⟩ : ∃ x, L[k]? = some x := ⟨L[k]'(by rw [HLN.out]; exact hlt), List.getElem?_eq_getElem _⟩
      obtain ⟨ad, X, cx, rfl, hcx, hxc, hxb⟩ := (HL.out.below HB.out).at_ k x hx
      have HX := Lib.hid hx
      clear hxb hx
      by_cases hbig2 : 50000 < x.length
      · have hbz2 : (50000 : Int) < (x.length : Int) := by omega
        go_wp2
        go_ret
        exact ⟨rfl, HB.out⟩
      have hbz2 : ¬ (50000 : Int) < (x.length : Int) := by omega
      have hwx : IntKind.u64.wrap (x.length : Int) = (x.length : Int) := by rw [IntKind.wrap_u64]; omega
      have hp10 := putL_len x.length (by omega)
      obtain ⟨P, hP⟩ : ∃ P, putL x.length = P := ⟨_, rfl⟩
      obtain ⟨p, hp⟩ : ∃ p, P.length = p := ⟨_, rfl⟩
      rw [hP, hp] at hp10
      have HP := Lib.hid hP
      have HPL := Lib.hid hp
      clear hP hp
      go_wp2_with fail
      refine (lPut_is wr _ x.length (by omega) P p HP.out HPL.out rfl).mono ?_
      rintro e w2 ⟨A2, c2, rfl, hO2, hB2⟩
      have HB2 := Lib.hid (below_then HB.out hB2 HB.out.size)
      have HS2 := Lib.hid (src_of_own hO2)
      have HO2 := Lib.hid (ownsRow_block HO.out fun j hj => hB2.block j (HO.out.lt j hj).2)
      clear hO2 hB2
      go_wp2_with (first
        | (at_builtin; refine wpList_append_src _ rfl (.tmp 29) (.tmp 36) 23 rfl w.heap.size 5 i0 (.int .u8 0) 1 Try.underlying23 hi hz0 hz1 hz2 rfl _ _ _ rfl HO2.out A2 _ c2 _ rfl HS2.out (u8_one _) (by unfold maxLen; omega) (by omega) HB2.out.size ?_; intro v3 w3 hown hgrow _; obtain ⟨A3, c3, hv3⟩ := own_slice hown; subst hv3; have HO3 := Lib.hid hown; have HB3 := Lib.hid (HB2.out.grown hgrow HB2.out.size (fun j hj => (HO2.out.lt j hj).1)); obtain ⟨X3, cx3, had3, hcx3, hxc3, hxb3⟩ : ∃ X3 cx3, True ∧ w3.cell? (ad.add k) = some (.slice X3 x.length cx3) ∧ x.length ≤ cx3 ∧ BytesIn w3 X3 x.length x := (by obtain ⟨ad', X', cx', h1, h2, h3, h4⟩ := (HL.out.below HB3.out).at_ k x HX.out; cases h1; exact ⟨X', cx', trivial, h2, h3, h4⟩); have HXB3 := Lib.hid hxb3; clear hown hgrow hxb3 had3)
        | (at_builtin; refine wpList_append_src _ rfl (.tmp 38) (.tmp 42) 23 rfl w.heap.size 5 i0 (.int .u8 0) 1 Try.underlying23 hi hz0 hz1 hz2 rfl _ _ _ rfl HO3.out X3 _ cx3 _ rfl HXB3.out.2.1 (u8_one _) (by unfold maxLen; omega) (by omega) HB3.out.size ?_; intro v4 w4 hown hgrow _; have HO4 := Lib.hid hown; have HB4 := Lib.hid (HB3.out.grown hgrow HB3.out.size (fun j hj => (HO3.out.lt j hj).1)); clear hown hgrow))
      go_roundw
      case rel =>
        have e1 : texB (L.take (k + 1)) = T ++ P ++ x := by rw [take_snoc' HX.out, texB_snoc, ← HT.out, HP.out]
        have e2 : (T ++ P ++ x).length = t + p + x.length := by rw [List.length_append, List.length_append, ← HTL.out, HPL.out]
        refine ⟨k + 1, by omega, by go_num, by rw [e1, e2]; omega, fun j y hj hy => ?_, HB4.out, ?_⟩
        · by_cases hjk : j = k
          · subst hjk
            rw [HX.out] at hy
            cases hy
            omega
          · exact HSM.out j y (by omega) hy
        · rw [e1, e2, List.map_append, List.map_append]
          exact HO4.out
      case measure => simp [intOf]; omega
    · obtain rfl : k = n := by omega
      have hlz : ¬ ((k : Int) < (k : Int)) := by omega
      by_cases hbig : 100000 ≤ t
      · have hbz2 : (100000 : Int) ≤ (t : Int) := by omega
        go_wp2
        go_ret
        exact ⟨rfl, HB.out⟩
      have hbz2 : ¬ (100000 : Int) ≤ (t : Int) := by omega
      have htk : L.take k = L := List.take_of_length_le (by rw [HLN.out]; exact Nat.le_refl _)
      have hT2 := HT.out
      rw [htk] at hT2
      have HT2 := Lib.hid hT2
      clear htk hT2
      go_wp2_with fail
      refine (lNew_any wr Av t cv T (BytesIn.own HO.out (by unfold maxLen; omega)) (by omega)).mono ?_
      rintro e w5 ⟨b, g, rfl, hbw, hg, hR, hB⟩
      have HB5 := Lib.hid (below_then HB.out hB HB.out.size)
      have HR := Lib.hid hR
      have hbw2 : w.heap.size ≤ b := Nat.le_trans HB.out.size hbw
      clear hbw hg hR hB
      unfold at0
      go_wp2
      go_loopw [7] (fun i wx => ∃ q : Nat, q ≤ k ∧ i = .int .i64 q ∧ IsR wx b g ⟨T, (texB (L.take q)).length, 0⟩ ∧ Below w.heap.size w wx) (fun i _ => k - (intOf i).toNat)
      case atStart => exact ⟨0, by omega, rfl, HR.out, HB5.out⟩
      case round =>
        obtain ⟨q, hq, rfl, hR6, hB6⟩ := hrel
        have HR6 := Lib.hid hR6
        have HB6 := Lib.hid hB6
        clear hR6 hB6
        rcases Nat.lt_or_ge q k with hlt | hge
        · have hlt' : (q : Int) < (k : Int) := by omega
          have p0 : (0 : Int) ≤ (q : Int) := by omega
          obtain ⟨x, hx⟩ : ∃ x, L[q]? = some x := ⟨L[q]'(by rw [HLN.out]; exact hlt), List.getElem?_eq_getElem _⟩
          have hx5 := HSM.out q x hlt hx
          have hrd := tex_read hx hx5
          rw [← HT2.out] at hrd
          have HRD := Lib.hid hrd
          have HX := Lib.hid hx
          clear hrd hx
          go_wp2_with fail
          refine (lText_any wr b g _ HR6.out 100000 (by omega) (by omega)).mono ?_
          rw [HRD.out]
          rintro e w7 ⟨v7, rfl, hO7, hR7, hK7⟩
          have hO7' : w7.ownsRow wr.heap.size 5 1 v7 x.length (x.map byteV) := hO7
          obtain ⟨A7, c7, hv7⟩ := own_slice hO7'
          subst hv7
          have HB7 := Lib.hid (HB6.out.trans (hK7.toBelow HB6.out.size (fun i (h : i = b) => by omega)))
          obtain ⟨ad, X, cx, rfl, hcx, hxc, hxb⟩ := (HL.out.below HB7.out).at_ q x HX.out
          have hcv1 : ∀ n, (convert 23 9 (.slice A7 x.length c7)).run Try.prog (w7.drewN n) = .ok (.string ⟨x.toArray⟩) (w7.drewN n) := fun n => str_of ((BytesIn.own hO7' (by unfold maxLen; omega)).drewN n) c7
          have hcv2 : ∀ n, (convert 23 9 (.slice X x.length cx)).run Try.prog (w7.drewN n) = .ok (.string ⟨x.toArray⟩) (w7.drewN n) := fun n => str_of (hxb.drewN n) cx
          have HR7 : Hid (IsR w7 b g ⟨T, (texB (L.take (q + 1))).length, 0⟩) := Lib.hid hR7
          have d1 : (x != x) = false := by simp
          have d2 : ((0 : Int) != 0) = false := by simp
          clear hO7 hO7' hR7 hK7 hxb
          go_wp2_with fail
          go_quiet (first | (go_at_call 28; refine Calls.quiet_of_same (lErr_any _ b g _ (HR7.out.drewN _))))
          go_wp2
          go_roundw
          case rel => exact ⟨q + 1, by omega, by go_num, HR7.out.drewN _, below_drewN HB7.out _⟩
          case measure => simp [intOf]; omega
        · obtain rfl : q = k := by omega
          have hlz : ¬ ((q : Int) < (q : Int)) := by omega
          have htk : L.take q = L := List.take_of_length_le (by rw [HLN.out]; exact Nat.le_refl _)
          have hR8 := HR6.out
          rw [htk, ← HT2.out] at hR8
          have HR8 := Lib.hid hR8
          have hlf : rLeft ⟨T, T.length, 0⟩ = 0 := by simp [rLeft]
          have hend := tex_end L
          rw [← HT2.out] at hend
          have HEND := Lib.hid hend
          clear htk hR8 hend
          go_wp2_with fail
          refine (lLeft_any wr b g _ HR8.out).mono ?_
          rintro e w8 ⟨rfl, hw⟩
          rw [hw, hlf]
          clear hw hlf
          go_wp2_with fail
          refine (lInt_any wr b g _ HR8.out 9 (by omega) (by omega)).mono ?_
          rw [HEND.out]
          rintro e w9 ⟨rfl, hR9, hK9⟩
          have HR9 : Hid (IsR w9 b g ⟨T, T.length, 31⟩) := Lib.hid hR9
          have HB9 := Lib.hid (HB6.out.trans (hK9.toBelow HB6.out.size (fun i (h : i = b) => by omega)))
          clear hR9 hK9
          go_wp2_with fail
          refine (lErr_any w9 b g _ HR9.out).mono ?_
          rintro e w10 ⟨rfl, hw⟩
          rw [hw]
          clear hw
          go_wp2
          go_ret
          exact ⟨rfl, HB9.out⟩
end Go.Proofs.Ytmncnbnloonenaa
