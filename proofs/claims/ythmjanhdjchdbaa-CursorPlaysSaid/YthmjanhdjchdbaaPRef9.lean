/- The document's Get. -/
import Derived.Test.YthmjanhdjchdbaaPRef6
import Derived.Test.YthmjanhdjchdbaaPMath4
import Derived.Test.YthmjanhdjchdbaaKPostsG
import Derived.Test.YthmjanhdjchdbaaLRef4
import Derived.Test.YthmjanhdjchdbaaKStr
import Derived.Deep.DeepCutAuto
namespace Go.Proofs.Ythmjanhdjchdbaa
open Go.RowKit Go.Maps Go.WideMaps
set_option linter.unusedSimpArgs false

def GetPOut (w : World) (g : List Pst × Int) (e : Ending) (w' : World) : Prop := ∃ v, e = .returned (.tuple #[v, .int .i64 g.2]) ∧ PostsO w' w.heap.size v g.1 ∧ Below w.heap.size w w'
theorem spotInfo : (Try.prog.info? 53).map (fun i => (i.zero, i.size, i.bytes)) = some (some (.agg #[.int .i64 0, .int .i64 0]), 2, 16) := by kernel_rfl
theorem postInfo : (Try.prog.info? 49).map (fun i => (i.zero, i.size, i.bytes)) = some (some (.agg #[.int .i64 0, .slice none 0 0]), 2, 32) := by kernel_rfl
theorem gotErr {w w' : World} {g : List Pst × Int} (h : g = ([], 3)) (hb : Below w.heap.size w w') : GetPOut w g (.returned (.tuple #[.slice none 0 0, .int .i64 3])) w' := by
  subst h
  exact ⟨_, rfl, PostsO.nil _ _, hb⟩

theorem up_none {b : List UInt8} {n0 k M n' : Nat} {l : List Pst} {doc : Int} (h : rdUp b n0 k = some (l, n', doc)) (h1 : rdOne b (skipB b k n') = none) (hk : k < M) : rdUp b n0 M = none := by
  have h2 : rdUp b n0 (k + 1) = none := by rw [rdUp, h]; simp only; rw [h1]
  have h3 := rdUp_none h2 (M - (k + 1))
  rwa [show k + 1 + (M - (k + 1)) = M by omega] at h3
theorem up_some {b : List UInt8} {n0 k n' n2 d : Nat} {l : List Pst} {s : List (Int × Int)} {doc : Int} (h : rdUp b n0 k = some (l, n', doc)) (h1 : rdOne b (skipB b k n') = some (d, s, n2)) : rdUp b n0 (k + 1) = some (l ++ [(doc + d + 1, s)], n2, doc + d + 1) := by
  rw [rdUp, h]
  simp only
  rw [h1]
theorem one_bad1 {b : List UInt8} {n d k1 : Nat} {e1 : Int} (h : getL (b.drop n) = (d, k1, e1)) (hb : e1 ≠ 0 ∨ 4294967296 < d) : rdOne b n = none := by
  unfold rdOne
  rw [h, if_pos hb]
theorem one_bad2 {b : List UInt8} {n d k1 k2 : Nat} {e2 : Int} {p : List Int} (h : getL (b.drop n) = (d, k1, 0)) (hd : d ≤ 4294967296) (h2 : getR (b.drop (n + k1)) 4096 = (p, k2, e2)) (hb : e2 ≠ 0) : rdOne b n = none := by
  unfold rdOne
  rw [h]
  simp only
  rw [if_neg (by omega), h2, if_pos hb]
theorem one_bad3 {b : List UInt8} {n d k1 k2 k3 : Nat} {e3 : Int} {p a : List Int} (h : getL (b.drop n) = (d, k1, 0)) (hd : d ≤ 4294967296) (h2 : getR (b.drop (n + k1)) 4096 = (p, k2, 0)) (h3 : getR (b.drop (n + k1 + k2)) 4096 = (a, k3, e3)) (hb : e3 ≠ 0 ∨ a.length ≠ p.length) : rdOne b n = none := by
  unfold rdOne
  rw [h]
  simp only
  rw [if_neg (by omega), h2]
  simp only
  rw [if_neg (by simp), h3]
  simp only
  rw [if_pos hb]
theorem one_good {b : List UInt8} {n d k1 k2 k3 : Nat} {p a : List Int} (h : getL (b.drop n) = (d, k1, 0)) (hd : d ≤ 4294967296) (h2 : getR (b.drop (n + k1)) 4096 = (p, k2, 0)) (h3 : getR (b.drop (n + k1 + k2)) 4096 = (a, k3, 0)) (hb : a.length = p.length) : rdOne b n = some (d, p.zip a, n + k1 + k2 + k3) := by
  unfold rdOne
  rw [h]
  simp only
  rw [if_neg (by omega), h2]
  simp only
  rw [if_neg (by simp), h3]
  simp only
  rw [if_neg (by simp [hb])]

set_option maxHeartbeats 16000000 in
set_option maxRecDepth 100000 in
theorem r9Get_any (w : World) (A : Option Addr) (n c : Nat) (b : Nm) (hb : BytesIn w A n b) (hc : n ≤ c) (hn : n ≤ 1099511627776) :
    Calls Try.prog 27 #[.slice A n c] w (GetPOut w (getP b)) := by
  have hbl : b.length = n := by have := hb.2.1.len; simpa using this
  obtain ⟨G, hG⟩ : ∃ G, G = getP b := ⟨_, rfl⟩
  rw [← hG]
  have HB := Lib.hid hb
  have HBL := Lib.hid hbl
  have HG := Lib.hid hG
  clear hb hbl hG
  go_enter Try.func27, Try.ntmps27
  go_wp2_with fail
  refine (r3Get_any w A n c b HB.out).mono ?_
  rintro e w1 ⟨rfl, hw⟩
  rw [hw]
  clear hw
  unfold gotV
  obtain ⟨M, n0, e0, hgl⟩ : ∃ M n0 e0, getL b = (M, n0, e0) := ⟨_, _, _, rfl⟩
  rw [hgl]
  simp only
  have HGL := Lib.hid hgl
  by_cases he : e0 = 0
  · subst he
    have hle := getL_le (l := b) (by rw [hgl])
    rw [hgl] at hle
    simp only at hle
    by_cases hM : 4096 < M
    · have d1 : decide ((4096 : Int) < (M : Int)) = true := decide_eq_true (by omega)
      have HE : Hid (G = ([], 3)) := Lib.hid (by rw [HG.out]; unfold getP; rw [hgl, if_pos (.inr hM)])
      clear hgl hM hle
      go_wp2
      go_ret2
      exact gotErr HE.out (Below.refl _ _)
    · have d1 : decide ((4096 : Int) < (M : Int)) = false := decide_eq_false (by omega)
      have hM4 : M ≤ 4096 := by omega
      have HE : Hid (G = match rdUp b n0 M with | none => ([], 3) | some (l, _, _) => if checkP l = 0 ∧ putP l = b then (l, 0) else ([], 3)) := Lib.hid (by rw [HG.out]; unfold getP; rw [hgl, if_neg (by simp; omega)]; rfl)
      have HN0 : Hid (n0 ≤ b.length) := Lib.hid hle.1
      have hcv : IntKind.i64.wrap (M : Int) = (M : Int) := IntWalk.i64_in _ (by omega)
      clear hgl hM hle
      go_wp2
      go_loopw [5, 7, 8, 9] (fun nv lv dv iv wr => ∃ (k n' : Nat) (doc : Int) (l : List Pst), k ≤ M ∧ rdUp b n0 k = some (l, n', doc) ∧ nv = .int .i64 n' ∧ dv = .int .i64 doc ∧ iv = .int .i64 k ∧ PostsO wr w.heap.size lv l ∧ Below w.heap.size w wr) (fun _ _ _ i _ => M - (intOf i).toNat)
      case atStart => exact ⟨0, n0, -1, [], by omega, rfl, rfl, rfl, rfl, PostsO.nil _ _, Below.refl _ _⟩
      case round =>
        obtain ⟨k, n', doc, l, hk, hup, rfl, rfl, rfl, hO, hB⟩ := hrel
        obtain ⟨Al, cl, hvl⟩ : ∃ Al cl, u7 = .slice Al l.length cl := by
          obtain ⟨R, _, h1, _⟩ := hO
          exact own_slice h1
        subst hvl
        have HO := Lib.hid hO
        have HW := Lib.hid hB
        have HUP := Lib.hid hup
        have HUK := Lib.hid (rdUp_ok HN0.out k l n' doc hup)
        clear hO hB hup
        obtain ⟨wo, hwo⟩ : ∃ z, z = wr := ⟨_, rfl⟩
        subst hwo
        rcases Nat.lt_or_ge k M with hlt | hge
        · have hlt' : (k : Int) < (M : Int) := by omega
          have hw5 : IntKind.i64.wrap ((k : Int) + 1) = (k : Int) + 1 := IntWalk.i64_in _ (by omega)
          have hn' : n' ≤ n := by have := HUK.out.end_; rw [HBL.out] at this; exact this
          obtain ⟨m1, hm1⟩ : ∃ m1, m1 = if k % 16 = 0 then pastB b n' else n' := ⟨_, rfl⟩
          have hm1n : m1 ≤ n := by
            rw [hm1, ← HBL.out]
            split
            · exact pastB_in (by rw [HBL.out]; exact hn')
            · rw [HBL.out]; exact hn'
          obtain ⟨m2, hm2⟩ : ∃ m2, m2 = if k % 4 = 0 then pastB b m1 else m1 := ⟨_, rfl⟩
          have hm2n : m2 ≤ n := by
            rw [hm2, ← HBL.out]
            split
            · exact pastB_in (by rw [HBL.out]; exact hm1n)
            · rw [HBL.out]; exact hm1n
          have hsk : skipB b k n' = m2 := by
            rw [hm2, hm1]
            unfold skipB
            split <;> rfl
          have HSK := Lib.hid hsk
          have HM1 := Lib.hid hm1
          have HM2 := Lib.hid hm2
          clear hsk hm1 hm2
          go_upto_if 38 with fail
          go_cut [5] (fun v wx => v = .int .i64 m1 ∧ wx = wo)
          case first =>
            by_cases h16 : k % 16 = 0
            · have d2 : ((k : Int) % 16 == 0) = true := by simp; omega
              have hm := HM1.out
              rw [if_pos h16] at hm
              have HMM := Lib.hid hm
              clear hm h16
              go_wp2_with fail
              refine (r9past_any wo A n c b (HB.out.below HW.out) hc n' hn').mono ?_
              rintro e2 w2 ⟨rfl, hw⟩
              rw [hw]
              clear hw
              go_wp2
              go_meet
              case rel => exact ⟨by rw [HMM.out], rfl⟩
            · have d2 : ((k : Int) % 16 == 0) = false := by simp; omega
              have hm := HM1.out
              rw [if_neg h16] at hm
              have HMM := Lib.hid hm
              clear hm h16
              go_wp2
              go_meet
              case rel => exact ⟨by rw [HMM.out], rfl⟩
          case rest =>
            obtain ⟨rfl, hwx⟩ := hcut
            rw [hwx]
            clear hwx
            go_upto_if 44 with fail
            go_cut [5] (fun v wx => v = .int .i64 m2 ∧ wx = wo)
            case first =>
              by_cases h4 : k % 4 = 0
              · have d2 : ((k : Int) % 4 == 0) = true := by simp; omega
                have hm := HM2.out
                rw [if_pos h4] at hm
                have HMM := Lib.hid hm
                clear hm h4
                go_wp2_with fail
                refine (r9past_any wo A n c b (HB.out.below HW.out) hc m1 hm1n).mono ?_
                rintro e2 w2 ⟨rfl, hw⟩
                rw [hw]
                clear hw
                go_wp2
                go_meet
                case rel => exact ⟨by rw [HMM.out], rfl⟩
              · have d2 : ((k : Int) % 4 == 0) = false := by simp; omega
                have hm := HM2.out
                rw [if_neg h4] at hm
                have HMM := Lib.hid hm
                clear hm h4
                go_wp2
                go_meet
                case rel => exact ⟨by rw [HMM.out], rfl⟩
            case rest =>
              obtain ⟨rfl, hwx⟩ := hcut
              rw [hwx]
              clear hwx
              have HNO : Hid (rdOne b m2 = none → G = ([], 3)) := Lib.hid (fun h => by
                have h1 := up_none HUP.out (by rw [HSK.out]; exact h) hlt
                rw [HE.out, h1])
              have HYES : Hid (∀ (d n2 : Nat) (s : List (Int × Int)), rdOne b m2 = some (d, s, n2) → rdUp b n0 (k + 1) = some (l ++ [(doc + d + 1, s)], n2, doc + d + 1)) := Lib.hid (fun d n2 s h => up_some HUP.out (by rw [HSK.out]; exact h))
              have hdoc1 := HUK.out.doc.1
              have hdoc2 := HUK.out.doc.2
              clear HM1 HM2 HSK hm1n hn'
              have hsl2 := fun w => slice_from w A n c m2 hm2n
              have hin := (HB.out.below HW.out).sub hc m2 n hm2n (Nat.le_refl _)
              rw [List.take_of_length_le (by rw [HBL.out]; exact Nat.le_refl _)] at hin
              have HC := Lib.hid (r3Get_any wo (cutAddr A m2 c) (n - m2) (c - m2) (b.drop m2) hin)
              unfold gotV at HC
              obtain ⟨d, k1, e1, hg1⟩ : ∃ d k1 e1, getL (b.drop m2) = (d, k1, e1) := ⟨_, _, _, rfl⟩
              have hl1 : e1 = 0 → k1 ≤ n - m2 ∧ d < 2 ^ 64 := fun h1 => by
                have h2 := getL_le (l := b.drop m2) (by rw [hg1]; exact h1)
                rw [hg1, List.length_drop, HBL.out] at h2
                exact h2
              rw [hg1] at HC
              simp only at HC
              have HG1 := Lib.hid hg1
              clear hg1 hin
              go_wp2_with fail
              refine HC.out.mono ?_
              rintro e2 w2 ⟨rfl, hw2⟩
              rw [hw2]
              clear hw2 hsl2
              by_cases hb1 : e1 = 0
              · subst hb1
                obtain ⟨hk1, hd64⟩ := hl1 rfl
                clear hl1
                by_cases hd : d ≤ 4294967296
                · have d3 : decide ((4294967296 : Int) < (d : Int)) = false := decide_eq_false (by omega)
                  obtain ⟨m3, hm3⟩ : ∃ m3, m3 = m2 + k1 := ⟨_, rfl⟩
                  have hw6 : IntKind.i64.wrap ((m2 : Int) + (k1 : Int)) = (m3 : Int) := by rw [IntWalk.i64_in _ (by omega)]; omega
                  have hm3n : m3 ≤ n := by omega
                  have hsl3 := fun w => slice_from w A n c m3 hm3n
                  have hin := (HB.out.below HW.out).sub hc m3 n hm3n (Nat.le_refl _)
                  rw [List.take_of_length_le (by rw [HBL.out]; exact Nat.le_refl _)] at hin
                  have HC2 := Lib.hid (r3GetRising_any wo (cutAddr A m3 c) (n - m3) (c - m3) (b.drop m3) hin (by omega) (by omega) 4096 (by omega) (by omega))
                  obtain ⟨p, k2, e2, hg2⟩ : ∃ p k2 e2, getR (b.drop m3) 4096 = (p, k2, e2) := ⟨_, _, _, rfl⟩
                  have hl2 : e2 = 0 → k2 ≤ n - m3 ∧ (p.length : Int) ≤ 4096 := fun h1 => by
                    have h2 := getR_le (l := b.drop m3) (most := 4096) (by rw [hg2]; exact h1)
                    rw [hg2, List.length_drop, HBL.out] at h2
                    exact ⟨h2.1, h2.2.1⟩
                  rw [hg2] at HC2
                  have HG2 := Lib.hid hg2
                  have HM3 := Lib.hid hm3
                  clear hg2 hin hm3
                  go_wp2_with fail
                  refine HC2.out.mono ?_
                  rintro e3 w3 ⟨v3, rfl, hb3, ho3⟩
                  obtain ⟨X3, c3, hv3⟩ := own_slice ho3
                  subst hv3
                  have HB3 := Lib.hid (below_then HW.out hb3 HW.out.size)
                  have HBo3 := Lib.hid hb3
                  have HO3 := Lib.hid ho3
                  clear hb3 ho3 hsl3
                  by_cases hb2 : e2 = 0
                  · subst hb2
                    obtain ⟨hk2, hpl⟩ := hl2 rfl
                    clear hl2
                    obtain ⟨m4, hm4⟩ : ∃ m4, m4 = m3 + k2 := ⟨_, rfl⟩
                    have hw7 : IntKind.i64.wrap ((m3 : Int) + (k2 : Int)) = (m4 : Int) := by rw [IntWalk.i64_in _ (by omega)]; omega
                    have hm4n : m4 ≤ n := by omega
                    have hsl4 := fun w => slice_from w A n c m4 hm4n
                    have hin := (HB.out.below HB3.out).sub hc m4 n hm4n (Nat.le_refl _)
                    rw [List.take_of_length_le (by rw [HBL.out]; exact Nat.le_refl _)] at hin
                    have HC3 := Lib.hid (r3GetRising_any w3 (cutAddr A m4 c) (n - m4) (c - m4) (b.drop m4) hin (by omega) (by omega) 4096 (by omega) (by omega))
                    obtain ⟨a, k3, e3, hg3⟩ : ∃ a k3 e3, getR (b.drop m4) 4096 = (a, k3, e3) := ⟨_, _, _, rfl⟩
                    have hl3 : e3 = 0 → k3 ≤ n - m4 := fun h1 => by
                      have h2 := getR_le (l := b.drop m4) (most := 4096) (by rw [hg3]; exact h1)
                      rw [hg3, List.length_drop, HBL.out] at h2
                      exact h2.1
                    rw [hg3] at HC3
                    have HG3 : Hid (getR (b.drop (m2 + k1 + k2)) 4096 = (a, k3, e3)) := Lib.hid (by rw [← HM3.out, ← hm4]; exact hg3)
                    have HG2' : Hid (getR (b.drop (m2 + k1)) 4096 = (p, k2, 0)) := Lib.hid (by rw [← HM3.out]; exact HG2.out)
                    have HM4 := Lib.hid hm4
                    clear hg3 hin hm4
                    go_wp2_with fail
                    refine HC3.out.mono ?_
                    rintro e4 w4 ⟨v4, rfl, hb4, ho4⟩
                    obtain ⟨X4, c4, hv4⟩ := own_slice ho4
                    subst hv4
                    have HB4 := Lib.hid (below_then HB3.out hb4 HB3.out.size)
                    have HBo4 := Lib.hid (below_then HBo3.out hb4 HBo3.out.size)
                    have HO4 := Lib.hid ho4
                    have HO3' := Lib.hid (ownsRow_block HO3.out (fun g hg => hb4.block g (HO3.out.lt g hg).2))
                    clear hb4 ho4 hsl4
                    by_cases hb3 : e3 = 0
                    · subst hb3
                      by_cases hap : a.length = p.length
                      · have d5 : ((a.length : Int) != (p.length : Int)) = false := by simp [hap]
                        have hk3 := hl3 rfl
                        obtain ⟨m5, hm5⟩ : ∃ m5, m5 = m4 + k3 := ⟨_, rfl⟩
                        have hw8 : IntKind.i64.wrap ((m4 : Int) + (k3 : Int)) = (m5 : Int) := by rw [IntWalk.i64_in _ (by omega)]; omega
                        have hw9 : IntKind.i64.wrap (d : Int) = (d : Int) := IntWalk.i64_in _ (by omega)
                        have hw10 : IntKind.i64.wrap (doc + (d : Int)) = doc + (d : Int) := IntWalk.i64_in _ (by omega)
                        have hw11 : IntKind.i64.wrap (doc + (d : Int) + 1) = doc + (d : Int) + 1 := IntWalk.i64_in _ (by omega)
                        have HONE := Lib.hid (one_good HG1.out hd HG2'.out HG3.out hap)
                        have HM5 : Hid (m2 + k1 + k2 + k3 = m5) := Lib.hid (by rw [hm5, HM4.out, HM3.out])
                        clear hl3 hm5
                        obtain ⟨x, hx⟩ : ∃ x, x = doc + (d : Int) + 1 := ⟨_, rfl⟩
                        obtain ⟨s, hs⟩ : ∃ s, s = p.zip a := ⟨_, rfl⟩
                        have hsl : s.length = p.length := by rw [hs, List.length_zip]; omega
                        have hsz : ∀ q y1 y2, p[q]? = some y1 → a[q]? = some y2 → s[q]? = some (y1, y2) := fun q y1 y2 h1 h2 => by rw [hs, List.getElem?_zip_eq_some]; exact ⟨h1, h2⟩
                        rw [HM5.out, ← hs] at HONE
                        have hp4 : p.length ≤ 4096 := by omega
                        have HSZ := Lib.hid hsz
                        have HX := Lib.hid hx
                        have hgp := getR_le (l := b.drop (m2 + k1)) (most := 4096) (by rw [HG2'.out])
                        have hga := getR_le (l := b.drop (m2 + k1 + k2)) (most := 4096) (by rw [HG3.out])
                        rw [HG2'.out] at hgp
                        rw [HG3.out] at hga
                        have HIP := Lib.hid (IntsIn.own HO3'.out (by unfold maxLen; omega) (fun y hy => by have h1 := rises_ge hgp.2.2.1 y hy; have h2 := hgp.2.2.2 y hy; omega))
                        have HIA := Lib.hid (IntsIn.own HO4.out (by unfold maxLen; omega) (fun y hy => by have h1 := rises_ge hga.2.2.1 y hy; have h2 := hga.2.2.2 y hy; omega))
                        clear hs hx hgp hga hsz
                        go_wp2_with fail
                        rw [← HX.out]
                        obtain ⟨wi, hwi⟩ : ∃ z, z = w4.alloc (.cells #[.int .i64 x, .slice none 0 0] 49) := ⟨_, rfl⟩
                        rw [← hwi]
                        obtain ⟨xb, hxb⟩ : ∃ z, z = w4.heap.size := ⟨_, rfl⟩
                        rw [← hxb]
                        have HXB := Lib.hid hxb
                        have HBX : Hid (Blk wi xb 49 #[.int .i64 x, .slice none 0 0]) := Lib.hid (by rw [hwi, hxb]; exact Blk.new _ _ _)
                        have HWX : Hid (Below w4.heap.size w4 wi) := Lib.hid (by rw [hwi]; exact (Below.refl _ w4).alloc (Nat.le_refl _) _)
                        obtain ⟨i1, hi1, hy0, hy1, hy2⟩ := info_parts spotInfo
                        clear hwi hxb
                        go_loopw [16] (fun j wi => ∃ (q : Nat) (v : Value), q ≤ p.length ∧ j = .int .i64 q ∧ Blk wi xb 49 #[.int .i64 x, v] ∧ wi.ownsRow (xb + 1) 53 2 v q ((s.take q).flatMap twoCells) ∧ Below w4.heap.size w4 wi) (fun j _ => p.length - (intOf j).toNat)
                        case atStart => exact ⟨0, _, by omega, rfl, HBX.out, ⟨rfl, .inl ⟨rfl, rfl⟩⟩, HWX.out⟩
                        case round =>
                          obtain ⟨q, v, hq, rfl, hB, hR, hW⟩ := hrel
                          obtain ⟨Av, cv, rfl⟩ := own_slice hR
                          have HBI := Lib.hid hB
                          have HRI := Lib.hid hR
                          have HWI := Lib.hid hW
                          clear hB hR hW
                          rcases Nat.lt_or_ge q p.length with hlq | hgq
                          · have hlq' : (q : Int) < (p.length : Int) := by omega
                            have hla' : (q : Int) < (a.length : Int) := by omega
                            have q0 : (0 : Int) ≤ (q : Int) := by omega
                            have hw12 : IntKind.i64.wrap ((q : Int) + 1) = (q : Int) + 1 := IntWalk.i64_in _ (by omega)
                            obtain ⟨pa, y1, rfl, hp1, -, -, -⟩ := HIP.out.at q hlq
                            obtain ⟨pb, y2, rfl, ha1, -, -, -⟩ := HIA.out.at q (by omega)
                            have hss : ∀ u, Below w4.heap.size w4 u → u.cell? (pa.add q) = some (.int .i64 y1) ∧ u.cell? (pb.add q) = some (.int .i64 y2) := fun u hu => by
                              obtain ⟨pa', y1', e1, e2, e3, -, -⟩ := (HIP.out.below hu).at q hlq
                              obtain ⟨pb', y2', f1, f2, f3, -, -⟩ := (HIA.out.below hu).at q (by omega)
                              cases e1
                              cases f1
                              rw [hp1] at e2
                              rw [ha1] at f2
                              cases e2
                              cases f2
                              exact ⟨e3, f3⟩
                            have HSS := Lib.hid hss
                            have HNX : Hid ((s.take (q + 1)).flatMap twoCells = (s.take q).flatMap twoCells ++ twoCells (y1, y2)) := Lib.hid (by rw [List.take_add_one, HSZ.out q y1 y2 hp1 ha1]; simp)
                            clear hss hp1 ha1
                            go_wp2_with fail
                            refine wp_region_held_drew (S := fun w' => w'.cell? (pa.add q) = some (.int .i64 y1) ∧ w'.cell? (pb.add q) = some (.int .i64 y2)) (by kernel_rfl) (HSS.out wr HWI.out) (fun hHeld => ?_)
                            obtain ⟨u0, hu0⟩ : ∃ z, z = wr.drew := ⟨_, rfl⟩
                            rw [← hu0]
                            have hb0 : Below wr.heap.size wr u0 := by rw [hu0]; exact (Below.refl _ wr).drew
                            have HB0 := Lib.hid (HBI.out.below hb0 HBI.out.lt)
                            have HR0 := Lib.hid (ownsRow_block HRI.out (fun g hg => hb0.block g (HRI.out.lt g hg).2))
                            have HW0 := Lib.hid (below_then HWI.out hb0 HWI.out.size)
                            have hSn0 := HSS.out _ HW0.out
                            clear hu0 hb0
                            refine wpAnyH_take (i := 0) (oi := ?oit10) (v := ?vt10) ?hit10 (by kernel_rfl) (by kernel_rfl) (by kernel_rfl) ?hQt10 (Or.inl ⟨?hwt10, ?hyt10⟩) (by assumption) ?restt10
                            case hit10 => (first | (simp only [List.getElem?_toArray, List.getElem?_cons_zero, List.getElem?_cons_succ]; rfl) | rfl)
                            case hQt10 => exact fun _ _ _ h => h
                            case hwt10 => rfl
                            case hyt10 => ((intro w hSw; go_simp); first | done | with_reducible rfl)
                            try simp only [Act.put, List.setIfInBounds_toArray, List.set_cons_zero, List.set_cons_succ]
                            refine wpAnyH_take (i := 2) (oi := ?oit22) (v := ?vt22) ?hit22 (by kernel_rfl) (by kernel_rfl) (by kernel_rfl) ?hQt22 (Or.inl ⟨?hwt22, ?hyt22⟩) (by assumption) ?restt22
                            case hit22 => (first | (simp only [List.getElem?_toArray, List.getElem?_cons_zero, List.getElem?_cons_succ]; rfl) | rfl)
                            case hQt22 => exact fun _ _ _ h => h
                            case hwt22 => rfl
                            case hyt22 => ((intro w hSw; go_simp); first | done | with_reducible rfl)
                            try simp only [Act.put, List.setIfInBounds_toArray, List.set_cons_zero, List.set_cons_succ]
                            refine wpAnyH_take (i := 3) (oi := ?oit33) (v := ?vt33) ?hit33 (by kernel_rfl) (by kernel_rfl) (by kernel_rfl) ?hQt33 (Or.inl ⟨?hwt33, ?hyt33⟩) (by assumption) ?restt33
                            case hit33 => (first | (simp only [List.getElem?_toArray, List.getElem?_cons_zero, List.getElem?_cons_succ]; rfl) | rfl)
                            case hQt33 => exact fun _ _ _ h => h
                            case hwt33 => rfl
                            case hyt33 => ((intro w hSw; go_simp); first | done | with_reducible rfl)
                            try simp only [Act.put, List.setIfInBounds_toArray, List.set_cons_zero, List.set_cons_succ]
                            refine wpAnyH_take (i := 6) (oi := ?oit46) (v := ?vt46) ?hit46 (by kernel_rfl) (by kernel_rfl) (by kernel_rfl) ?hQt46 (Or.inl ⟨?hwt46, ?hyt46⟩) (by assumption) ?restt46
                            case hit46 => (first | (simp only [List.getElem?_toArray, List.getElem?_cons_zero, List.getElem?_cons_succ]; rfl) | rfl)
                            case hQt46 => exact fun _ _ _ h => h
                            case hwt46 => rfl
                            case hyt46 => ((intro w hSw; go_simp); first | done | with_reducible rfl)
                            try simp only [Act.put, List.setIfInBounds_toArray, List.set_cons_zero, List.set_cons_succ]
                            refine wpAnyH_take (i := 7) (oi := ?oit57) (v := ?vt57) ?hit57 (by kernel_rfl) (by kernel_rfl) (by kernel_rfl) ?hQt57 (Or.inl ⟨?hwt57, ?hyt57⟩) (by assumption) ?restt57
                            case hit57 => (first | (simp only [List.getElem?_toArray, List.getElem?_cons_zero, List.getElem?_cons_succ]; rfl) | rfl)
                            case hQt57 => exact fun _ _ _ h => h
                            case hwt57 => rfl
                            case hyt57 => ((intro w hSw; go_simp); first | done | with_reducible rfl)
                            try simp only [Act.put, List.setIfInBounds_toArray, List.set_cons_zero, List.set_cons_succ]
                            refine wpAnyH_take (i := 4) (oi := ?oit64) (v := ?vt64) ?hit64 (by kernel_rfl) (by kernel_rfl) (by kernel_rfl) ?hQt64 (Or.inl ⟨?hwt64, ?hyt64⟩) (by assumption) ?restt64
                            case hit64 => (first | (simp only [List.getElem?_toArray, List.getElem?_cons_zero, List.getElem?_cons_succ]; rfl) | rfl)
                            case hQt64 => exact fun _ _ _ h => h
                            case hwt64 => rfl
                            case hyt64 => ((intro w hSw; go_simp); first | done | with_reducible rfl)
                            try simp only [Act.put, List.setIfInBounds_toArray, List.set_cons_zero, List.set_cons_succ]
                            refine wpAnyH_take (i := 8) (oi := ?oit78) (v := ?vt78) ?hit78 (by kernel_rfl) (by kernel_rfl) (by kernel_rfl) ?hQt78 (Or.inl ⟨?hwt78, ?hyt78⟩) (by assumption) ?restt78
                            case hit78 => (first | (simp only [List.getElem?_toArray, List.getElem?_cons_zero, List.getElem?_cons_succ]; rfl) | rfl)
                            case hQt78 => exact fun _ _ _ h => h
                            case hwt78 => rfl
                            case hyt78 => ((intro w hSw; go_simp); first | done | with_reducible rfl)
                            try simp only [Act.put, List.setIfInBounds_toArray, List.set_cons_zero, List.set_cons_succ]
                            refine wpAnyH_take (i := 5) (oi := ?oit85) (v := ?vt85) ?hit85 (by kernel_rfl) (by kernel_rfl) (by kernel_rfl) ?hQt85 (Or.inl ⟨?hwt85, ?hyt85⟩) (by assumption) ?restt85
                            case hit85 => (first | (simp only [List.getElem?_toArray, List.getElem?_cons_zero, List.getElem?_cons_succ]; rfl) | rfl)
                            case hQt85 => exact fun _ _ _ h => h
                            case hwt85 => rfl
                            case hyt85 => ((intro w hSw; go_simp); first | done | with_reducible rfl)
                            try simp only [Act.put, List.setIfInBounds_toArray, List.set_cons_zero, List.set_cons_succ]
                            refine wpAnyH_take (i := 9) (oi := ?oit99) (v := ?vt99) ?hit99 (by kernel_rfl) (by kernel_rfl) (by kernel_rfl) ?hQt99 (Or.inl ⟨?hwt99, ?hyt99⟩) (by assumption) ?restt99
                            case hit99 => (first | (simp only [List.getElem?_toArray, List.getElem?_cons_zero, List.getElem?_cons_succ]; rfl) | rfl)
                            case hQt99 => exact fun _ _ _ h => h
                            case hwt99 => rfl
                            case hyt99 => ((intro w hSw; go_simp); first | done | with_reducible rfl)
                            try simp only [Act.put, List.setIfInBounds_toArray, List.set_cons_zero, List.set_cons_succ]
                            refine wpAnyH_take (i := 10) (oi := ?oit1010) (v := ?vt1010) ?hit1010 (by kernel_rfl) (by kernel_rfl) (by kernel_rfl) ?hQt1010 (Or.inl ⟨?hwt1010, ?hyt1010⟩) (by assumption) ?restt1010
                            case hit1010 => (first | (simp only [List.getElem?_toArray, List.getElem?_cons_zero, List.getElem?_cons_succ]; rfl) | rfl)
                            case hQt1010 => exact fun _ _ _ h => h
                            case hwt1010 => rfl
                            case hyt1010 => ((intro w hSw; go_simp); first | done | with_reducible rfl)
                            try simp only [Act.put, List.setIfInBounds_toArray, List.set_cons_zero, List.set_cons_succ]
                            refine wpAnyH_ready (rs := [1, 11]) (by kernel_rfl) (by simp) ?_
                            refine AllReadyH.cons (o := ?ot11) ?ht11 ?st11 (AllReadyH.cons (o := ?ot12) ?ht12 ?st12 AllReadyH.nil)
                            case ht11 => (simp only [List.getElem?_toArray, List.getElem?_cons_zero, List.getElem?_cons_succ]; rfl)
                            case ht12 => (simp only [List.getElem?_toArray, List.getElem?_cons_zero, List.getElem?_cons_succ]; rfl)
                            case st11 =>
                              intro K hK
                              have yq1 := HB0.out.cell 1
                              simp only [List.getElem?_toArray, List.getElem?_cons_zero, List.getElem?_cons_succ] at yq1
                              go_simp
                              clear yq1
                              refine hK.out _ _ (HSS.out _ HW0.out) (fun ht13 => ?_)
                              clear hK K
                              try simp only [Act.put, List.setIfInBounds_toArray, List.set_cons_zero, List.set_cons_succ]
                              refine wpAnyH_ready (rs := [11]) (by kernel_rfl) (by simp) ?_
                              refine AllReadyH.cons (o := ?ot14) ?ht14 ?st14 AllReadyH.nil
                              case ht14 => (simp only [List.getElem?_toArray, List.getElem?_cons_zero, List.getElem?_cons_succ]; rfl)
                              case st14 =>
                                intro K hK
                                go_simp
                                obtain ⟨uq2, huq7⟩ : ∃ z, z = u0.alloc (.cells #[.int .i64 y1, .int .i64 y2] 53) := ⟨_, rfl⟩
                                have Nq3 : Hid (Blk uq2 u0.heap.size 53 #[.int .i64 y1, .int .i64 y2]) := Lib.hid (by rw [huq7]; exact Blk.new _ _ _)
                                rw [← huq7]
                                have hbq8 : Below u0.heap.size u0 uq2 := by rw [huq7]; exact (Below.refl _ u0).alloc (Nat.le_refl _) _
                                have Bq4 := Lib.hid (HB0.out.below hbq8 HB0.out.lt)
                                have Rq5 := Lib.hid (ownsRow_block HR0.out (fun g hg => hbq8.block g (HR0.out.lt g hg).2))
                                have Wq6 := Lib.hid (below_then HW0.out hbq8 HW0.out.size)
                                clear huq7 hbq8
                                have Sq9 := HSS.out _ Wq6.out
                                refine hK.out _ _ (HSS.out _ Wq6.out) (fun ht15 => ?_)
                                clear hK K
                                try simp only [Act.put, List.setIfInBounds_toArray, List.set_cons_zero, List.set_cons_succ]
                                refine wpAnyH_ready (rs := [12]) (by kernel_rfl) (by simp) ?_
                                refine AllReadyH.cons (o := ?ot16) ?ht16 ?st16 AllReadyH.nil
                                case ht16 => (simp only [List.getElem?_toArray, List.getElem?_cons_zero, List.getElem?_cons_succ]; rfl)
                                case st16 =>
                                  intro K hK
                                  refine step_append_recK _ rfl (.tmp 112) (.tmp 122) 38 rfl (xb + 1) 53 i1 _ 2 16 Try.underlying38 hi1 hy0 hy1 hy2 rfl (by decide) _ q _ rfl Rq5.out ⟨u0.heap.size, 0, none⟩ 1 1 (twoCells (y1, y2)) rfl rfl (doc_src (p := (y1, .int .i64 y2)) Nq3.out) (two_one _) (by unfold maxLen; omega) (by omega) Bq4.out.lt ?_
                                  intro vq16 uq10 hwq11 hgq12 hlq13
                                  obtain ⟨Aq14, cq15, rfl⟩ := own_slice hwq11
                                  have Bq17 := Lib.hid (Bq4.out.grown hgq12 (fun e => by have := (Rq5.out.lt xb e.symm).1; omega))
                                  have Wq18 := Lib.hid (Wq6.out.grown hgq12 Wq6.out.size (fun g hg => by have := (Rq5.out.lt g hg).1; have := HXB.out; omega))
                                  have Hhwq11 := Lib.hid hwq11
                                  clear hwq11 hgq12 hlq13
                                  have Sq19 := HSS.out _ Wq18.out
                                  refine hK.out _ _ (HSS.out _ Wq18.out) (fun ht17 => ?_)
                                  clear hK K
                                  try simp only [Act.put, List.setIfInBounds_toArray, List.set_cons_zero, List.set_cons_succ]
                                  refine wpAnyH_take (i := 13) (oi := ?oit1813) (v := ?vt1813) ?hit1813 (by kernel_rfl) (by kernel_rfl) (by kernel_rfl) ?hQt1813 (Or.inl ⟨?hwt1813, ?hyt1813⟩) (by assumption) ?restt1813
                                  case hit1813 => (first | (simp only [List.getElem?_toArray, List.getElem?_cons_zero, List.getElem?_cons_succ]; rfl) | rfl)
                                  case hQt1813 => exact fun _ _ _ h => h
                                  case hwt1813 => rfl
                                  case hyt1813 => ((intro w hSw; go_simp); first | done | with_reducible rfl)
                                  try simp only [Act.put, List.setIfInBounds_toArray, List.set_cons_zero, List.set_cons_succ]
                                  refine wpAnyH_ready (rs := [14]) (by kernel_rfl) (by simp) ?_
                                  refine AllReadyH.cons (o := ?ot19) ?ht19 ?st19 AllReadyH.nil
                                  case ht19 => (simp only [List.getElem?_toArray, List.getElem?_cons_zero, List.getElem?_cons_succ]; rfl)
                                  case st19 =>
                                    intro K hK
                                    have yq20 := Bq17.out.cell 1
                                    have zq21 := Bq17.out.frozen 1
                                    simp only [List.getElem?_toArray, List.getElem?_cons_zero, List.getElem?_cons_succ] at yq20
                                    go_simp
                                    clear yq20 zq21
                                    have Bq22 := Lib.hid (Bq17.out.set_ 1 (.slice Aq14 (q + 1) cq15))
                                    have Rq23 := Lib.hid (show (uq10.setCell ⟨xb, 1, none⟩ (.slice Aq14 (q + 1) cq15)).ownsRow (xb + 1) 53 2 (.slice Aq14 (q + 1) cq15) (q + 1) _ from ownsRow_block Hhwq11.out (fun g hg => Below.heap_setCell uq10 ⟨xb, 1, none⟩ (.slice Aq14 (q + 1) cq15) g (by have := (Hhwq11.out.lt g hg).1; simp only; omega)))
                                    have Wq24 := Lib.hid (Wq18.out.setCell (p := ⟨xb, 1, none⟩) (by have := HXB.out; simp only; omega) (.slice Aq14 (q + 1) cq15))
                                    refine hK.out _ _ (HSS.out _ Wq24.out) (fun ht20 => ?_)
                                    clear hK K
                                    try simp only [Act.put, List.setIfInBounds_toArray, List.set_cons_zero, List.set_cons_succ]
                                    refine wpAnyH_done (by kernel_rfl) ?_ _
                                    go_wp2
                                    go_roundw
                                    case rel =>
                                      refine ⟨q + 1, _, by omega, by go_num, Bq22.out, ?_, Wq24.out⟩
                                      rw [HNX.out]
                                      exact Rq23.out
                                    case measure => simp [intOf]; omega
                            case st12 =>
                              intro K hK
                              go_simp
                              obtain ⟨uq25, huq30⟩ : ∃ z, z = u0.alloc (.cells #[.int .i64 y1, .int .i64 y2] 53) := ⟨_, rfl⟩
                              have Nq26 : Hid (Blk uq25 u0.heap.size 53 #[.int .i64 y1, .int .i64 y2]) := Lib.hid (by rw [huq30]; exact Blk.new _ _ _)
                              rw [← huq30]
                              have hbq31 : Below u0.heap.size u0 uq25 := by rw [huq30]; exact (Below.refl _ u0).alloc (Nat.le_refl _) _
                              have Bq27 := Lib.hid (HB0.out.below hbq31 HB0.out.lt)
                              have Rq28 := Lib.hid (ownsRow_block HR0.out (fun g hg => hbq31.block g (HR0.out.lt g hg).2))
                              have Wq29 := Lib.hid (below_then HW0.out hbq31 HW0.out.size)
                              clear huq30 hbq31
                              have Sq32 := HSS.out _ Wq29.out
                              refine hK.out _ _ (HSS.out _ Wq29.out) (fun ht21 => ?_)
                              clear hK K
                              try simp only [Act.put, List.setIfInBounds_toArray, List.set_cons_zero, List.set_cons_succ]
                              refine wpAnyH_ready (rs := [1]) (by kernel_rfl) (by simp) ?_
                              refine AllReadyH.cons (o := ?ot22) ?ht22 ?st22 AllReadyH.nil
                              case ht22 => (simp only [List.getElem?_toArray, List.getElem?_cons_zero, List.getElem?_cons_succ]; rfl)
                              case st22 =>
                                intro K hK
                                have yq33 := Bq27.out.cell 1
                                simp only [List.getElem?_toArray, List.getElem?_cons_zero, List.getElem?_cons_succ] at yq33
                                go_simp
                                clear yq33
                                refine hK.out _ _ (HSS.out _ Wq29.out) (fun ht23 => ?_)
                                clear hK K
                                try simp only [Act.put, List.setIfInBounds_toArray, List.set_cons_zero, List.set_cons_succ]
                                refine wpAnyH_ready (rs := [12]) (by kernel_rfl) (by simp) ?_
                                refine AllReadyH.cons (o := ?ot24) ?ht24 ?st24 AllReadyH.nil
                                case ht24 => (simp only [List.getElem?_toArray, List.getElem?_cons_zero, List.getElem?_cons_succ]; rfl)
                                case st24 =>
                                  intro K hK
                                  refine step_append_recK _ rfl (.tmp 112) (.tmp 122) 38 rfl (xb + 1) 53 i1 _ 2 16 Try.underlying38 hi1 hy0 hy1 hy2 rfl (by decide) _ q _ rfl Rq28.out ⟨u0.heap.size, 0, none⟩ 1 1 (twoCells (y1, y2)) rfl rfl (doc_src (p := (y1, .int .i64 y2)) Nq26.out) (two_one _) (by unfold maxLen; omega) (by omega) Bq27.out.lt ?_
                                  intro vq40 uq34 hwq35 hgq36 hlq37
                                  obtain ⟨Aq38, cq39, rfl⟩ := own_slice hwq35
                                  have Bq41 := Lib.hid (Bq27.out.grown hgq36 (fun e => by have := (Rq28.out.lt xb e.symm).1; omega))
                                  have Wq42 := Lib.hid (Wq29.out.grown hgq36 Wq29.out.size (fun g hg => by have := (Rq28.out.lt g hg).1; have := HXB.out; omega))
                                  have Hhwq35 := Lib.hid hwq35
                                  clear hwq35 hgq36 hlq37
                                  have Sq43 := HSS.out _ Wq42.out
                                  refine hK.out _ _ (HSS.out _ Wq42.out) (fun ht25 => ?_)
                                  clear hK K
                                  try simp only [Act.put, List.setIfInBounds_toArray, List.set_cons_zero, List.set_cons_succ]
                                  refine wpAnyH_take (i := 13) (oi := ?oit2613) (v := ?vt2613) ?hit2613 (by kernel_rfl) (by kernel_rfl) (by kernel_rfl) ?hQt2613 (Or.inl ⟨?hwt2613, ?hyt2613⟩) (by assumption) ?restt2613
                                  case hit2613 => (first | (simp only [List.getElem?_toArray, List.getElem?_cons_zero, List.getElem?_cons_succ]; rfl) | rfl)
                                  case hQt2613 => exact fun _ _ _ h => h
                                  case hwt2613 => rfl
                                  case hyt2613 => ((intro w hSw; go_simp); first | done | with_reducible rfl)
                                  try simp only [Act.put, List.setIfInBounds_toArray, List.set_cons_zero, List.set_cons_succ]
                                  refine wpAnyH_ready (rs := [14]) (by kernel_rfl) (by simp) ?_
                                  refine AllReadyH.cons (o := ?ot27) ?ht27 ?st27 AllReadyH.nil
                                  case ht27 => (simp only [List.getElem?_toArray, List.getElem?_cons_zero, List.getElem?_cons_succ]; rfl)
                                  case st27 =>
                                    intro K hK
                                    have yq44 := Bq41.out.cell 1
                                    have zq45 := Bq41.out.frozen 1
                                    simp only [List.getElem?_toArray, List.getElem?_cons_zero, List.getElem?_cons_succ] at yq44
                                    go_simp
                                    clear yq44 zq45
                                    have Bq46 := Lib.hid (Bq41.out.set_ 1 (.slice Aq38 (q + 1) cq39))
                                    have Rq47 := Lib.hid (show (uq34.setCell ⟨xb, 1, none⟩ (.slice Aq38 (q + 1) cq39)).ownsRow (xb + 1) 53 2 (.slice Aq38 (q + 1) cq39) (q + 1) _ from ownsRow_block Hhwq35.out (fun g hg => Below.heap_setCell uq34 ⟨xb, 1, none⟩ (.slice Aq38 (q + 1) cq39) g (by have := (Hhwq35.out.lt g hg).1; simp only; omega)))
                                    have Wq48 := Lib.hid (Wq42.out.setCell (p := ⟨xb, 1, none⟩) (by have := HXB.out; simp only; omega) (.slice Aq38 (q + 1) cq39))
                                    refine hK.out _ _ (HSS.out _ Wq48.out) (fun ht28 => ?_)
                                    clear hK K
                                    try simp only [Act.put, List.setIfInBounds_toArray, List.set_cons_zero, List.set_cons_succ]
                                    refine wpAnyH_done (by kernel_rfl) ?_ _
                                    go_wp2
                                    go_roundw
                                    case rel =>
                                      refine ⟨q + 1, _, by omega, by go_num, Bq46.out, ?_, Wq48.out⟩
                                      rw [HNX.out]
                                      exact Rq47.out
                                    case measure => simp [intOf]; omega
                          · obtain rfl : q = p.length := by omega
                            have hlz : ¬ ((p.length : Int) < (p.length : Int)) := by omega
                            rw [List.take_of_length_le (by omega)] at HRI
                            have c0 := HBI.out.cell 0
                            have c1 := HBI.out.cell 1
                            simp only [List.getElem?_toArray, List.getElem?_cons_zero, List.getElem?_cons_succ] at c0 c1
                            have hbo := below_then HBo4.out HWI.out HBo4.out.size
                            obtain ⟨R, hR0, hR1, hR2⟩ := HO.out.below (hbo.alloc hbo.size (.cells #[.int .i64 x, .slice Av p.length cv] 49))
                            have hone := rdOne_ok HONE.out (by rw [HBL.out]; exact hm2n)
                            have hpin := (PairsIn.ownTwo HRI.out hsl (by unfold maxLen; omega) (fun y hy => by have := hone.fit y hy; unfold fits64; omega)).below ((Below.refl wr.heap.size wr).alloc (Nat.le_refl _) (.cells #[.int .i64 x, .slice Av p.length cv] 49))
                            have hux : ∀ ad, Av = some ad → ad.block < wr.heap.size ∧ xb + 1 ≤ ad.block := fun ad e => by have := HRI.out.lt ad.block (by rw [e]; rfl); omega
                            have hul : ∀ g, Value.ownBlock (.slice Al l.length cl) = some g → g < wo.heap.size := fun g e => by
                              obtain ⟨R', _, h1, _⟩ := HO.out
                              exact (h1.lt g e).2
                            have hxb2 : wo.heap.size ≤ xb := by have h1 := HXB.out; have h2 := HBo4.out.size; omega
                            have HPA : Hid (PostAt (wr.alloc (.cells #[.int .i64 x, .slice Av p.length cv] 49)) (x, s) (x, .slice Av p.length cv) fun i => w.heap.size ≤ i ∧ Value.ownBlock (.slice Al l.length cl) ≠ some i) := Lib.hid ⟨rfl, by have h1 := HX.out; have h2 := hone.doc; unfold fits64; simp only; omega, Av, cv, by rw [hsl], by rw [hsl]; exact rowCap_le HRI.out, by rw [hsl]; exact hpin, fun ad e _ => ⟨by have := hux ad e; simp; omega, by have h1 := hux ad e; have h3 := HW.out.size; omega, fun e2 => by have h1 := hux ad e; have h2 := hul _ e2; omega⟩⟩
                            have HR1 := Lib.hid hR1
                            have HR2 := Lib.hid hR2
                            have HBW := Lib.hid (below_then HB4.out HWI.out HB4.out.size)
                            have hup2 := HYES.out d m5 s HONE.out
                            rw [← HX.out] at hup2
                            have HUP2 := Lib.hid hup2
                            have HLL := Lib.hid HUK.out.len
                            obtain ⟨i2, hi2, hx0, hx1, hx2⟩ := info_parts postInfo
                            clear hbo hR1 hR2 hone hpin hux hul hup2
                            go_wp2_with (at_builtin; refine wpList_append_own_at _ rfl (.tmp 125) (.tmp 127) 22 rfl w.heap.size 49 i2 _ 2 32 Try.underlying22 hi2 hx0 hx1 hx2 rfl (by decide) _ l.length _ rfl HR1.out ⟨wr.heap.size, 0, none⟩ 1 1 (docCells (x, .slice Av p.length cv)) rfl rfl (doc_src (p := (x, .slice Av p.length cv)) (Blk.new wr 49 #[.int .i64 x, .slice Av p.length cv])) (doc_one _ _ _ _) (by have := HLL.out; unfold maxLen; omega) (by have := HLL.out; omega) (by have := HBW.out.size; simp; omega) ?_; intro v5 w5 hown hgrow _ hloc; have HO5 := Lib.hid (PostsO.push hR0 HR2.out HPA.out hown hgrow (hloc.imp id fun e => ⟨_, e, Nat.le_refl _⟩)); have HB5 := Lib.hid ((HBW.out.alloc HBW.out.size _).grown hgrow (by have := HBW.out.size; simp; omega) (fun g hg => (HR1.out.lt g hg).1)); clear hown hgrow hloc)
                            exact ⟨⟨k + 1, m5, x, l ++ [(x, s)], by omega, HUP2.out, rfl, rfl, by go_num, HO5.out, HB5.out⟩, by simp [intOf]; omega⟩
                      · have d5 : ((a.length : Int) != (p.length : Int)) = true := by simp; omega
                        have HBAD := Lib.hid (HNO.out (one_bad3 HG1.out hd HG2'.out HG3.out (.inr hap)))
                        clear hap hl3
                        go_wp2
                        go_ret2
                        exact gotErr HBAD.out HB4.out
                    · have d2 : (e3 == 0) = false := by simpa using hb3
                      have d2' : (e3 != 0) = true := by simpa using hb3
                      have HBAD := Lib.hid (HNO.out (one_bad3 HG1.out hd HG2'.out HG3.out (.inl hb3)))
                      clear hl3 hb3
                      go_wp2
                      go_ret2
                      exact gotErr HBAD.out HB4.out
                  · have d2 : (e2 == 0) = false := by simpa using hb2
                    have d2' : (e2 != 0) = true := by simpa using hb2
                    have HBAD := Lib.hid (HNO.out (one_bad2 HG1.out hd (by rw [← HM3.out]; exact HG2.out) hb2))
                    clear hl2 hb2
                    go_wp2
                    go_ret2
                    exact gotErr HBAD.out HB3.out
                · have d3 : decide ((4294967296 : Int) < (d : Int)) = true := decide_eq_true (by omega)
                  have HBAD := Lib.hid (HNO.out (one_bad1 HG1.out (.inr (by omega))))
                  clear hd
                  go_wp2
                  go_ret2
                  exact gotErr HBAD.out HW.out
              · have d2 : (e1 == 0) = false := by simpa using hb1
                have d2' : (e1 != 0) = true := by simpa using hb1
                have HBAD := Lib.hid (HNO.out (one_bad1 HG1.out (.inl hb1)))
                clear hl1 hb1
                go_wp2
                go_ret2
                exact gotErr HBAD.out HW.out
        · obtain rfl : k = M := by omega
          have hlz : ¬ ((k : Int) < (k : Int)) := by omega
          have hN := HUK.out.len
          have hsee : PostsSee wo Al k l := by rw [← hN]; exact HO.out.see rfl (by rw [hN]; unfold maxLen; omega)
          have HSEE := Lib.hid hsee
          have HPU := Lib.hid (r9Put_any wo Al k cl l hsee (by omega))
          have HBO : Hid (∀ w2, Below wo.heap.size wo w2 → GetPOut w (l, 0) (.returned (.tuple #[.slice Al k cl, .int .i64 0])) w2) := Lib.hid (fun w2 h2 => by rw [← hN]; exact ⟨_, rfl, HO.out.below h2, below_then HW.out h2 HW.out.size⟩)
          have HEE : Hid (G = if checkP l = 0 ∧ putP l = b then (l, 0) else ([], 3)) := Lib.hid (by rw [HE.out, HUP.out])
          have HWW := Lib.hid HW.out
          rw [hN]
          clear hsee hN
          go_wp2_with fail
          refine HPU.out.mono ?_
          rintro e2 w2 ⟨v2, rfl, ho2, hb2⟩
          obtain ⟨X2, c2, hv2⟩ := own_slice ho2
          subst hv2
          obtain ⟨R, hR⟩ : ∃ R, R = checkP l := ⟨_, rfl⟩
          have HR := Lib.hid hR
          by_cases h0 : R = 0
          · have hpe : putE l = putP l := by unfold putE; rw [if_pos (by rw [← hR]; exact h0)]
            rw [hpe] at ho2 ⊢
            rw [← hR]
            subst h0
            have hin2 := BytesIn.own ho2 (by have h1 := check_ok (fit_of HSEE.out); have h2 := putP_len (h1.1 hR.symm); unfold maxLen; omega)
            have hin := HB.out.below (below_then HW.out hb2 HW.out.size)
            have cv1 := str_of hin2 c2
            have cv2 := str_of hin c
            have HB2 := Lib.hid hb2
            by_cases heq : putP l = b
            · have HG2 : Hid (G = (l, 0)) := Lib.hid (by rw [HEE.out, if_pos ⟨hR.symm, heq⟩])
              have d7 : (putP l == b) = true := by simpa using heq
              have d7' : (putP l != b) = false := by simp [heq]
              clear hpe ho2 hin hin2 hb2 hR heq
              go_wp2
              go_ret2
              rw [HG2.out]
              exact HBO.out _ HB2.out
            · have HG2 : Hid (G = ([], 3)) := Lib.hid (by rw [HEE.out, if_neg (fun h => heq h.2)])
              have d7 : (putP l == b) = false := by simpa using heq
              have d7' : (putP l != b) = true := by simpa using heq
              clear hpe ho2 hin hin2 hb2 hR heq
              go_wp2
              go_ret2
              exact gotErr HG2.out (below_then HWW.out HB2.out HWW.out.size)
          · rw [← hR]
            have HG2 : Hid (G = ([], 3)) := Lib.hid (by rw [HEE.out, if_neg (fun h => h0 (by rw [hR]; exact h.1))])
            have d2 : (R == 0) = false := by simpa using h0
            have d2' : (R != 0) = true := by simpa using h0
            have HB2 := Lib.hid hb2
            clear hR h0 ho2 hb2
            go_wp2
            go_ret2
            exact gotErr HG2.out (below_then HWW.out HB2.out HWW.out.size)
  · have d1 : (e0 == 0) = false := by simpa using he
    have d1' : (e0 != 0) = true := by simpa using he
    have HE : Hid (G = ([], 3)) := Lib.hid (by rw [HG.out]; unfold getP; rw [hgl, if_pos (.inl he)])
    clear hgl he
    go_wp2
    go_ret2
    exact gotErr HE.out (Below.refl _ _)
end Go.Proofs.Ythmjanhdjchdbaa
