/- The landed dels: Put. -/
import Derived.Test.YtdmhaaplgkilpaaDpMath
import Derived.Test.YtdmhaaplgkilpaaFProg1
namespace Go.Proofs.Ytdmhaaplgkilpaa
open Go.RowKit Go.Maps Go.WideMaps
set_option linter.unusedSimpArgs false

theorem IsB.src {w : World} {b n : Nat} {l : List UInt8} (h : IsB w b n l) {k : Nat} (hk : k ≤ 8) : Src w (some ⟨b, 1, none⟩) k ((l.take k).map byteV) := by
  have hl := h.len
  refine ⟨by simp; omega, fun ad e j u hu => ?_, fun e => by cases e⟩
  cases e
  rw [List.getElem?_map, List.getElem?_take] at hu
  split at hu
  · rename_i hj
    have e2 : (⟨b, 1, none⟩ : Addr).add j = ⟨b, 1 + j, none⟩ := by
      unfold Addr.add
      split
      · rename_i h0
        rw [h0]
      · rfl
    rw [e2, h.cb j (by omega), ← hu, List.getD_eq_getElem?_getD, List.getElem?_eq_getElem (by omega)]
    rfl
  · cases hu

set_option maxHeartbeats 8000000 in
set_option maxRecDepth 100000 in
theorem dpPut_any {w : World} {b n : Nat} {l : List UInt8} (h : IsB w b n l) :
    Calls Try.prog 21 #[.pointer (some ⟨b, 0, none⟩)] w (BytesBack w (putF (putL n ++ l.take ((n + 7) / 8)))) := by
  have HH := Lib.hid h
  have c0 := h.c0
  have hn := h.few
  have hl := h.len
  have hbl := h.blk.lt
  obtain ⟨i0, hi, hz0, hz1, hz2⟩ := info_parts byteInfo
  have HCP := Lib.hid (lPut_any w n (by omega))
  have hpl := putL_len n (by omega)
  obtain ⟨T, hT⟩ : ∃ T, T = putL n := ⟨_, rfl⟩
  rw [← hT] at HCP hpl ⊢
  obtain ⟨k, hk⟩ : ∃ k, k = (n + 7) / 8 := ⟨_, rfl⟩
  have hk8 : k ≤ 8 := by omega
  rw [← hk]
  have HK := Lib.hid hk
  have HLEN : Hid ((putF (T ++ l.take k)).length ≤ 100) := Lib.hid (by
    rw [putF_len]
    have h1 : (T ++ l.take k).length ≤ 18 := by rw [List.length_append, List.length_take]; omega
    have h2 := putL_len (T ++ l.take k).length (by omega)
    omega)
  clear h hT hk
  go_enter Try.func21, Try.ntmps21
  go_wp2_with fail
  refine HCP.out.mono ?_
  rintro e w1 ⟨v1, rfl, ho1, hb1⟩
  obtain ⟨A1, c1, hv1⟩ := own_slice ho1
  subst hv1
  have HB1 := Lib.hid hb1
  have HO1 := Lib.hid ho1
  have HD1 : Hid (IsB w1 b n l) := Lib.hid (HH.out.of_block (HB1.out.block b hbl))
  have HCU := Lib.hid (dpUsed_any HD1.out)
  clear hb1 ho1 HCP
  go_wp2_with fail
  refine HCU.out.mono ?_
  rintro e w2 ⟨rfl, q, hw2⟩
  have HB2 : Hid (Below w.heap.size w w2) := Lib.hid (by rw [hw2]; exact below_drewN HB1.out q)
  have HO2 : Hid (w2.ownsRow w.heap.size 5 1 (.slice A1 T.length c1) T.length (T.map byteV)) := Lib.hid (by rw [hw2]; exact ownsRow_block HO1.out fun _ _ => rfl)
  have HD2 : Hid (IsB w2 b n l) := Lib.hid (by rw [hw2]; exact HD1.out.drewN q)
  have hs2 := HB2.out.size
  clear hw2 HCU HO1 HB1 HD1
  rw [← HK.out]
  go_wp2_with (at_builtin; refine wpList_append_src _ rfl (.tmp 8) (.tmp 10) 23 rfl w.heap.size 5 i0 (.int .u8 0) 1 Try.underlying23 hi hz0 hz1 hz2 rfl _ T.length _ rfl HO2.out _ k 8 _ rfl (HD2.out.src hk8) (u8_one _) (by unfold maxLen; omega) (by omega) (by omega) ?_; intro v3 w3 hown hgrow _; obtain ⟨A3, c3, hv3⟩ := own_slice hown; subst hv3; rw [← List.map_append] at hown; have HO3 := Lib.hid hown; have HB3 := Lib.hid (HB2.out.grown hgrow HB2.out.size (fun g hg => (HO2.out.lt g hg).1)); clear hown hgrow)
  have hbi := BytesIn.own HO3.out (by unfold maxLen; omega)
  have HCF := Lib.hid (fPut_any w3 A3 (T.length + k) c3 _ hbi (by omega))
  clear hbi
  refine HCF.out.mono ?_
  rintro e w4 ⟨v4, rfl, ho4, hb4⟩
  obtain ⟨A4, c4, hv4⟩ := own_slice ho4
  subst hv4
  have HB4 := Lib.hid (below_then HB3.out hb4 HB3.out.size)
  have HO4 := Lib.hid ho4
  clear ho4 hb4
  go_wp2
  go_ret
  exact ⟨A4, c4, rfl, BytesIn.own HO4.out (by unfold maxLen; have := HLEN.out; omega), rowCap_le HO4.out, fun ad e => Nat.le_trans HB3.out.size (HO4.out.lt ad.block (by rw [e]; rfl)).1, HB4.out⟩
end Go.Proofs.Ytdmhaaplgkilpaa
