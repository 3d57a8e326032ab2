/- The law CursorBytes. -/
import Derived.Test.YthmjanhdjchdbaaCuBoth
import Derived.Lib.MinMax
namespace Go.Proofs.Ythmjanhdjchdbaa
open Go.RowKit Go.Maps Go.WideMaps
set_option linter.unusedSimpArgs false

theorem zero_at (g j : Nat) : (⟨g, 0, none⟩ : Addr).add j = ⟨g, j, none⟩ := by
  unfold Addr.add
  split
  · rename_i h; rw [h]
  · simp
/-- Bytes of one's own, whatever they are. -/
structure OwnB (w : World) (g m : Nat) : Prop where
  blk : ∃ cur, Blk w g 5 cur ∧ ∀ j, j < m → ∃ x : UInt8, cur[j]? = some (byteV x)
theorem OwnB.at_ {w : World} {g m : Nat} (h : OwnB w g m) {j : Nat} (hj : j < m) : ∃ x : UInt8, w.cell? ⟨g, j, none⟩ = some (.int .u8 x.toNat) ∧ w.frozen? ⟨g, j, none⟩ = false := by
  obtain ⟨cur, h1, h2⟩ := h.blk
  obtain ⟨x, hx⟩ := h2 j hj
  exact ⟨x, by rw [h1.cell]; exact hx, h1.frozen j⟩
theorem OwnB.set_ {w : World} {g m : Nat} (h : OwnB w g m) {j : Nat} (y : UInt8) : OwnB (w.setCell ⟨g, j, none⟩ (.int .u8 y.toNat)) g m := by
  obtain ⟨cur, h1, h2⟩ := h.blk
  refine ⟨_, h1.set_ j _, fun i hi => ?_⟩
  by_cases e : i = j
  · subst e
    obtain ⟨x, hx⟩ := h2 i hi
    exact ⟨y, by rw [Array.getElem?_setIfInBounds_self_of_lt (Array.getElem?_eq_some_iff.1 hx).1]; rfl⟩
  · obtain ⟨x, hx⟩ := h2 i hi
    exact ⟨x, by rw [Array.getElem?_setIfInBounds_ne (fun e2 => e e2.symm)]; exact hx⟩
theorem OwnB.of {w : World} {base m c : Nat} {A : Option Addr} {x : Nm} (h : w.ownsRow base 5 1 (.slice A m c) m (x.map byteV)) (hm : 0 < m) : ∃ g, A = some ⟨g, 0, none⟩ ∧ base ≤ g ∧ g < w.heap.size ∧ OwnB w g m := by
  have hl := h.1
  rcases h.2 with ⟨_, h2⟩ | ⟨g, cap, cur, h1, h2, h3, h4, h5, h6, h7⟩
  · omega
  · cases h1
    have hb : Blk w g 5 cur := h3
    refine ⟨g, rfl, h2, hb.lt, cur, hb, fun j hj => ?_⟩
    have hxl : j < x.length := by rw [List.length_map] at hl; omega
    refine ⟨x[j], ?_⟩
    have h8 : (cur.toList.take (m * 1))[j]? = (x.map byteV)[j]? := by rw [h7]
    rw [List.getElem?_take, if_pos (by omega), List.getElem?_map, List.getElem?_eq_getElem hxl, Array.getElem?_toList] at h8
    exact h8
theorem Both.far {K : World → (Nat → Prop) → Nat → CSt → Prop} (hK : CursorOk K) {W w w' : World} {F G : Nat → Prop} {b lo d : Nat} {s t : CSt} {l : List Pst} (h : Both K W w F b s lo d t l) (hk : Kept G w w') (hF : ∀ i, F i → ¬ G i) (hG : ∀ i, G i → W.heap.size ≤ i ∧ i < lo) : Both K W w' F b s lo d t l :=
  ⟨⟨hK.far h.one.at_ hk hF, h.one.wf, h.one.same, h.one.new, below_kept h.one.below hk (fun i hi => (hG i hi).1)⟩, h.two.keep (fun i hi hi2 => hk.block i (by have := h.two.lt; omega) (fun hg => by have := hG i hg; omega)) h.low, h.low, h.since, h.apart⟩

set_option maxHeartbeats 16000000 in
set_option maxRecDepth 100000 in
theorem cursorBytes_any {K : World → (Nat → Prop) → Nat → CSt → Prop} (hK : CursorOk K) (W : World) (B : Option Addr) (m cm : Nat) (x : Nm) (hx : BytesSz W B m x) (hcm : m ≤ cm) (d : Int) (hd : fits64 d) :
    Calls Try.prog 4 #[.slice B m cm, .int .i64 d] W fun e w' => e = .returned (.bool true) ∧ Below W.heap.size W w' := by
  obtain ⟨i0, hi, hz0, hz1, hz2⟩ := info_parts byteInfo
  have hep := eqCurNil
  have hrp := eqRefNil
  have HK := Lib.hid hK
  have HH := Lib.hid (cuHead_any hK W)
  have HX := Lib.hid hx
  have hm63 : m ≤ 140737488351232 := hx.2
  clear hx hK
  go_enter Try.func4, Try.ntmps4
  go_wp2_with fail
  refine HH.out.mono ?_
  rintro e w1 ⟨rfl, hb1⟩
  have HB1 := Lib.hid hb1
  have HX1 := Lib.hid (HX.out.1.below hb1)
  clear hb1
  by_cases hm3 : 30000 < m
  · have d1 : decide ((30000 : Int) < (m : Int)) = true := decide_eq_true (by omega)
    go_wp2
    go_ret
    exact ⟨rfl, HB1.out⟩
  · have d1 : decide ((30000 : Int) < (m : Int)) = false := decide_eq_false (by omega)
    go_wp2_with (at_builtin; refine wpList_append_src _ rfl (.tmp 23) (.tmp 24) 26 rfl w1.heap.size 5 i0 (.int .u8 0) 1 Try.underlying26 hi hz0 hz1 hz2 rfl _ 0 [] rfl (World.ownsRow_made w1 #[] 0 (Nat.le_refl _) (Nat.zero_le _) rfl) B m cm (x.map byteV) rfl (HX1.out.below ((Below.refl _ w1).alloc (Nat.le_refl _) (.cells #[] 5))).2.1 (u8_one x) (by unfold maxLen; omega) (by omega) (by simp) ?_; intro v2 w2 hown hgrow hloc; rw [Nat.zero_add, List.nil_append] at hown; obtain ⟨A2, c2, hv⟩ := own_slice hown; subst hv; have HO2 := Lib.hid hown; have HB2 : Hid (Below w1.heap.size w1 w2) := Lib.hid ((((Below.refl _ w1).alloc (Nat.le_refl _) (.cells #[] 5)).grown hgrow (by simp) (fun k e => by cases e; exact Nat.le_refl _))); clear hown hgrow hloc)
    have hown : BytesIn w2 A2 m x := BytesIn.own HO2.out (by unfold maxLen; omega)
    have HWN := Lib.hid hown
    have HBW := Lib.hid (below_then HB1.out HB2.out HB1.out.size)
    obtain ⟨l, E, hg⟩ : ∃ l E, getP x = (l, E) := ⟨_, _, rfl⟩
    have HGG := Lib.hid hg
    have HOB : Hid (0 < m → ∃ g, A2 = some ⟨g, 0, none⟩ ∧ w1.heap.size ≤ g ∧ g < w2.heap.size ∧ OwnB w2 g m) := Lib.hid (OwnB.of HO2.out)
    clear hown
    by_cases hE : E = 0
    · subst hE
      have HN := Lib.hid (cur_new HK.out HBW.out HWN.out (rowCap_le HO2.out) (by omega) HGG.out)
      clear hg
      go_wp2_with fail
      refine HN.out.mono ?_
      rintro e w4 ⟨b1, F, rfl, hcu, hbn, hF⟩
      have HC4 := Lib.hid hcu
      have HFN := Lib.hid hF
      have HBN := Lib.hid hbn
      have HN2 := Lib.hid (r10New_any w4 B m cm x (HX.out.1.below hcu.below) hcm (by omega) HGG.out)
      clear hcu HN hbn hF
      go_wp2_with fail
      refine HN2.out.mono ?_
      rintro e w5 ⟨hb5, hcase⟩
      rcases hcase with ⟨hne, -⟩ | ⟨-, bd, rfl, hbd, hR⟩
      case inl => exact absurd rfl hne
      have HD := Lib.hid (Both.made HK.out HC4.out hb5 hR hbd)
      have HB45 := Lib.hid (below_then HBN.out hb5 HBN.out.size)
      clear hb5 hR hbd HN2
      have HOW : Hid (∃ G : Nat → Prop, (∀ i, G i → w1.heap.size ≤ i ∧ i < w2.heap.size) ∧ (0 < m → ∃ g, A2 = some ⟨g, 0, none⟩ ∧ G g ∧ OwnB w5 g m)) := Lib.hid (by
        rcases Nat.eq_zero_or_pos m with h0 | h0
        · exact ⟨fun _ => False, fun i h => h.elim, fun h => by omega⟩
        · obtain ⟨g, h1, h2, h3, h4⟩ := HOB.out h0
          refine ⟨fun i => i = g, fun i h => by rw [h]; exact ⟨h2, h3⟩, fun _ => ⟨g, h1, rfl, ?_⟩⟩
          obtain ⟨cur, h5, h6⟩ := h4.blk
          exact ⟨cur, h5.below HB45.out h3, h6⟩)
      obtain ⟨G, hG1, hG2⟩ := HOW.out
      have HG1 := Lib.hid hG1
      have HG2 := Lib.hid hG2
      clear hG1 hG2 HOW
      go_wp2
      go_loopw [11] (fun iv wr => ∃ i : Nat, i ≤ m ∧ iv = .int .i64 i ∧ Kept G w5 wr ∧ (0 < m → ∃ g, A2 = some ⟨g, 0, none⟩ ∧ G g ∧ OwnB wr g m)) (fun iv _ => m - (Go.RowKit.intOf iv).toNat)
      case atStart => exact ⟨0, by omega, rfl, Kept.refl _ _, HG2.out⟩
      case round =>
        obtain ⟨i, him, rfl, hkp, hob⟩ := hrel
        have HKP := Lib.hid hkp
        have HOO := Lib.hid hob
        clear hkp hob
        rcases Nat.lt_or_ge i m with hlt | hge
        · have hlt' : (i : Int) < (m : Int) := by omega
          have p0 : (0 : Int) ≤ (i : Int) := by omega
          obtain ⟨g, hA, hGg, hOB⟩ := HOO.out (by omega)
          subst hA
          obtain ⟨z, hz1c, hz2f⟩ := hOB.at_ hlt
          have a1 : (⟨g, 0, none⟩ : Addr).add i = ⟨g, i, none⟩ := zero_at g i
          obtain ⟨y, hy⟩ : ∃ y : UInt8, (y.toNat : Int) = ((z.toNat : Int) + 1) % 256 := ⟨UInt8.ofNat ((z.toNat + 1) % 256), by rw [UInt8.toNat_ofNat_of_lt' (by show _ < 256; omega)]; omega⟩
          have hwy : IntKind.u8.wrap ((z.toNat : Int) + 1) = (y.toNat : Int) := by rw [hy]; simp [IntKind.wrap, IntKind.bits, IntKind.signed]
          have hwy2 : ((z.toNat : Int) + 1) % 256 = (y.toNat : Int) := hy.symm
          have hw9 : IntKind.i64.wrap ((i : Int) + 1) = (i : Int) + 1 := IntWalk.i64_in _ (by omega)
          have HOS := Lib.hid (hOB.set_ (j := i) y)
          have HGg := Lib.hid hGg
          have HKS := Lib.hid (HKP.out.setCell (p := ⟨g, i, none⟩) (.inl hGg) (.int .u8 y.toNat))
          clear hOB hGg hy
          go_wp2
          go_roundw
          case rel => exact ⟨i + 1, by omega, by go_num, HKS.out, fun _ => ⟨g, rfl, HGg.out, HOS.out⟩⟩
          case measure => simp [Go.RowKit.intOf]; omega
        · obtain rfl : i = m := by omega
          have hlz : ¬ ((i : Int) < (i : Int)) := by omega
          have hb1s := HB1.out.size
          have hb2s := HB2.out.size
          have HD5 := Lib.hid (HD.out.far HK.out HKP.out (fun j hf hg => by have h1 := HFN.out j hf; have h2 := HG1.out j hg; omega) (fun j hg => by have h2 := HG1.out j hg; have h3 := HBN.out.size; omega))
          have e1 : ((0 : Int) == (0 : Int)) = true := by simp
          clear hb1s hb2s
          go_wp2_with fail
          refine (both_skip HK.out HD5.out d hd).mono ?_
          rintro e w8 ⟨rfl, F8, hb8⟩
          have HB8 := Lib.hid hb8
          have HNY := Lib.hid (both_skip2 HK.out hb8 d)
          obtain ⟨s, hs⟩ : ∃ s, s = cSkip (cStart l) d := ⟨_, rfl⟩
          rw [← hs] at HNY HB8 ⊢
          obtain ⟨I, hI⟩ : ∃ I, I = cIn s := ⟨_, rfl⟩
          obtain ⟨D, hD⟩ : ∃ D, D = cDoc s := ⟨_, rfl⟩
          rw [← hI] at HNY ⊢
          have HII := Lib.hid hI
          have HDD := Lib.hid hD
          clear hb8 hs hI hD
          go_wp2_with fail
          refine HNY.out.mono ?_
          rintro e w9 ⟨rfl, hb9⟩
          have HB9 := Lib.hid hb9
          have HDA := Lib.hid (cur_doc HK.out hb9.one)
          rw [← HDD.out, ← HII.out] at HDA
          clear hb9 HNY
          go_wp2_with fail
          refine HDA.out.mono ?_
          rintro e w10 ⟨rfl, hb10⟩
          have HB10 := Lib.hid (HB9.out.later HK.out hb10)
          have HDB := Lib.hid (r10Doc_any HB10.out.two)
          rw [← HDD.out, ← HII.out] at HDB
          have n1 : (I == I) = true := by simp
          have n2 : (D == D) = true := by simp
          clear hb10 HDA
          go_wp2_with fail
          refine HDB.out.mono ?_
          rintro e w11 ⟨rfl, q11, hw11⟩
          have HB11 : Hid (Below W.heap.size W w11) := Lib.hid (by rw [hw11]; exact below_drewN HB10.out.one.below q11)
          clear hw11 HDB
          go_wp2
          go_ret
          exact ⟨rfl, HB11.out⟩
    · have hnb := HK.out.new_bad w2 A2 m c2 x HWN.out (rowCap_le HO2.out) (by omega) (by rw [hg]; exact hE)
      rw [hg] at hnb
      have HNB := Lib.hid hnb
      have HEE := Lib.hid hE
      clear hg hnb hE
      go_wp2_with fail
      refine HNB.out.mono ?_
      rintro e w4 ⟨rfl, hb4⟩
      have HB4 := Lib.hid (below_then HBW.out hb4 HBW.out.size)
      have HBN := Lib.hid hb4
      have HN2 := Lib.hid (r10New_any w4 B m cm x (HX.out.1.below HB4.out) hcm (by omega) HGG.out)
      clear hb4 HNB
      go_wp2_with fail
      refine HN2.out.mono ?_
      rintro e w5 ⟨hb5, hcase⟩
      rcases hcase with ⟨-, rfl⟩ | ⟨hz, -⟩
      case inr => exact absurd hz HEE.out
      have HB5 := Lib.hid (below_then HB4.out hb5 HB4.out.size)
      have HB45 := Lib.hid (below_then HBN.out hb5 HBN.out.size)
      clear hb5 HN2
      have HOW : Hid (∃ G : Nat → Prop, (∀ i, G i → w1.heap.size ≤ i ∧ i < w2.heap.size) ∧ (0 < m → ∃ g, A2 = some ⟨g, 0, none⟩ ∧ G g ∧ OwnB w5 g m)) := Lib.hid (by
        rcases Nat.eq_zero_or_pos m with h0 | h0
        · exact ⟨fun _ => False, fun i h => h.elim, fun h => by omega⟩
        · obtain ⟨g, h1, h2, h3, h4⟩ := HOB.out h0
          refine ⟨fun i => i = g, fun i h => by rw [h]; exact ⟨h2, h3⟩, fun _ => ⟨g, h1, rfl, ?_⟩⟩
          obtain ⟨cur, h5, h6⟩ := h4.blk
          exact ⟨cur, h5.below HB45.out h3, h6⟩)
      obtain ⟨G, hG1, hG2⟩ := HOW.out
      have HG1 := Lib.hid hG1
      have HG2 := Lib.hid hG2
      clear hG1 hG2 HOW
      go_wp2
      go_loopw [11] (fun iv wr => ∃ i : Nat, i ≤ m ∧ iv = .int .i64 i ∧ Kept G w5 wr ∧ (0 < m → ∃ g, A2 = some ⟨g, 0, none⟩ ∧ G g ∧ OwnB wr g m)) (fun iv _ => m - (Go.RowKit.intOf iv).toNat)
      case atStart => exact ⟨0, by omega, rfl, Kept.refl _ _, HG2.out⟩
      case round =>
        obtain ⟨i, him, rfl, hkp, hob⟩ := hrel
        have HKP := Lib.hid hkp
        have HOO := Lib.hid hob
        clear hkp hob
        rcases Nat.lt_or_ge i m with hlt | hge
        · have hlt' : (i : Int) < (m : Int) := by omega
          have p0 : (0 : Int) ≤ (i : Int) := by omega
          obtain ⟨g, hA, hGg, hOB⟩ := HOO.out (by omega)
          subst hA
          obtain ⟨z, hz1c, hz2f⟩ := hOB.at_ hlt
          have a1 : (⟨g, 0, none⟩ : Addr).add i = ⟨g, i, none⟩ := zero_at g i
          obtain ⟨y, hy⟩ : ∃ y : UInt8, (y.toNat : Int) = ((z.toNat : Int) + 1) % 256 := ⟨UInt8.ofNat ((z.toNat + 1) % 256), by rw [UInt8.toNat_ofNat_of_lt' (by show _ < 256; omega)]; omega⟩
          have hwy : IntKind.u8.wrap ((z.toNat : Int) + 1) = (y.toNat : Int) := by rw [hy]; simp [IntKind.wrap, IntKind.bits, IntKind.signed]
          have hwy2 : ((z.toNat : Int) + 1) % 256 = (y.toNat : Int) := hy.symm
          have hw9 : IntKind.i64.wrap ((i : Int) + 1) = (i : Int) + 1 := IntWalk.i64_in _ (by omega)
          have HOS := Lib.hid (hOB.set_ (j := i) y)
          have HGg := Lib.hid hGg
          have HKS := Lib.hid (HKP.out.setCell (p := ⟨g, i, none⟩) (.inl hGg) (.int .u8 y.toNat))
          clear hOB hGg hy
          go_wp2
          go_roundw
          case rel => exact ⟨i + 1, by omega, by go_num, HKS.out, fun _ => ⟨g, rfl, HGg.out, HOS.out⟩⟩
          case measure => simp [Go.RowKit.intOf]; omega
        · obtain rfl : i = m := by omega
          have hlz : ¬ ((i : Int) < (i : Int)) := by omega
          have n1 : (E == E) = true := by simp
          have HBE : Hid (Below W.heap.size W wr) := Lib.hid (below_kept HB5.out HKP.out (fun j hg => by have h2 := HG1.out j hg; have h3 := HB1.out.size; omega))
          go_wp2
          go_ret
          exact ⟨rfl, HBE.out⟩
end Go.Proofs.Ythmjanhdjchdbaa
