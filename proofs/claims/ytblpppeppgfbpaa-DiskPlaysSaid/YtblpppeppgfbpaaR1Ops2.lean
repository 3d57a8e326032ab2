/- The document's disk: Rename, Create. -/
import Derived.Test.YtblpppeppgfbpaaR1Ops1
import Derived.Test.YtblpppeppgfbpaaR1Right
namespace Go.Proofs.Ytblpppeppgfbpaa
open Go.RowKit Go.Maps Go.WideMaps

theorem right_is (w : World) (k : Nm) (hk : k.length ≤ maxLen) {z : Bool} (hz : okName k = z) :
    Calls Try.prog 34 #[.string ⟨k.toArray⟩] w fun e w' => e = .returned (.bool z) ∧ w' = w := by
  refine (Right_any ⟨k.toArray⟩ w (by simpa [ByteArray.size] using hk)).mono ?_
  rintro e w' ⟨rfl, rfl⟩
  rw [← hz]
  exact ⟨rfl, rfl⟩
/-- The directory's cell, as it can be read. -/
theorem R1At.dirCell {w : World} {F : Nat → Prop} {b : Nat} {r : RSt} (h : R1At w F b r) : ∃ A c, w.cell? ⟨b, 2, none⟩ = some (.slice A r.dir.length c) ∧ DirIn w A r.dir.length r.dir := by
  obtain ⟨G, vi, vc, A, c, B, cb, svs, h, _, _⟩ := h
  exact ⟨A, c, by simpa using h.blk.cell 2, h.dir⟩

def rRename (r : RSt) (x y : Nm) : Int × RSt :=
  if (rPower r).off then (14, rPower r) else if okName y = false then (1, r) else match dget r.dir x with | none => (12, r) | some j => if x = y then (0, rDid r) else (0, rChange r ⟨x, y, j⟩)
set_option maxHeartbeats 4000000 in
set_option maxRecDepth 100000 in
theorem r1Rename_any (w : World) (F : Nat → Prop) (b : Nat) (r : RSt) (hR : R1At w F b r) (hnd : r.dir.length < 100000) (hnc : r.chs.length < 100000) (hdn : r.done < 100000) (x y : Nm) (hy : y.length ≤ maxLen) :
    Calls Try.prog 44 #[at0 b, .string ⟨x.toArray⟩, .string ⟨y.toArray⟩] w (R1Left w F b (rRename r x y).1 (rRename r x y).2) := by
  have hb := hR.F_b
  unfold rRename
  cases ho : (rPower r).off with
  | true =>
    rw [if_pos rfl]
    have HO := Lib.hid ho
    have HR := Lib.hid hR
    clear hR ho
    unfold at0
    go_enter Try.func44, Try.ntmps44
    go_wp2_with fail
    refine (r1power_any w F b r HR.out).mono ?_
    rintro e w1 ⟨rfl, hR1, hk⟩
    rw [HO.out]
    have HR1 := Lib.hid hR1
    have HK := Lib.hid hk
    clear hR1 hk
    go_wp2
    go_ret
    exact R1Left.stay HR1.out HK.out
  | false =>
    rw [if_neg Bool.false_ne_true]
    have hon := (rPower_on ho).2
    have hsame := rPower_same ho
    have HO := Lib.hid ho
    have HR := Lib.hid hR
    have HSAME := Lib.hid hsame
    have HON := Lib.hid hon
    clear hR ho hsame hon
    cases hok : okName y with
    | false =>
      rw [if_pos rfl]
      have HOK := Lib.hid hok
      clear hok
      unfold at0
      go_enter Try.func44, Try.ntmps44
      go_wp2_with fail
      refine (r1power_any w F b r HR.out).mono ?_
      rintro e w1 ⟨rfl, hR1, hk⟩
      rw [HO.out]
      rw [HSAME.out] at hR1
      have HR1 := Lib.hid hR1
      have HK := Lib.hid hk
      clear hR1 hk
      go_wp2_with fail
      refine (right_is w1 y hy HOK.out).mono ?_
      rintro e w2 ⟨rfl, hw⟩
      rw [hw]
      clear hw
      go_wp2
      go_ret
      exact R1Left.stay HR1.out HK.out
    | true =>
      rw [if_neg (by simp)]
      have HOK := Lib.hid hok
      clear hok
      rcases dfind_dget r.dir x with ⟨g1, g2⟩ | ⟨i, ⟨pn, j⟩, g0, g1, g2⟩
      · rw [g1]
        have G2 := Lib.hid g2
        clear g1 g2
        unfold at0
        go_enter Try.func44, Try.ntmps44
        go_wp2_with fail
        refine (r1power_any w F b r HR.out).mono ?_
        rintro e w1 ⟨rfl, hR1, hk⟩
        rw [HO.out]
        rw [HSAME.out] at hR1
        obtain ⟨A, c, k2, hd⟩ := hR1.dirCell
        have HR1 := Lib.hid hR1
        have HK := Lib.hid hk
        have HD := Lib.hid hd
        clear hR1 hk hd
        go_wp2_with fail
        refine (right_is w1 y hy HOK.out).mono ?_
        rintro e w2 ⟨rfl, hw⟩
        rw [hw]
        clear hw
        go_wp2_with fail
        refine (r1find_is w1 A _ c r.dir HD.out x G2.out).mono ?_
        rintro e w2 ⟨rfl, hw⟩
        rw [hw]
        clear hw
        go_wp2
        go_ret
        exact R1Left.stay HR1.out HK.out
      · rw [g1]
        have G2 := Lib.hid g2
        have G0 := Lib.hid g0
        have hni : ¬ ((i : Int) < 0) := by omega
        have hin := (List.getElem?_eq_some_iff.1 g0).1
        have hj := HR.out.wf.fdir _ (List.mem_of_getElem? g0)
        simp only at hj
        clear g0 g1 g2
        simp only
        by_cases hxy : x = y
        · subst hxy
          rw [if_pos rfl]
          unfold at0
          go_enter Try.func44, Try.ntmps44
          go_wp2_with fail
          refine (r1power_any w F b r HR.out).mono ?_
          rintro e w1 ⟨rfl, hR1, hk⟩
          rw [HO.out]
          rw [HSAME.out] at hR1
          obtain ⟨A, c, k2, hd⟩ := hR1.dirCell
          have HR1 := Lib.hid hR1
          have HK := Lib.hid hk
          have HD := Lib.hid hd
          clear hR1 hk hd
          go_wp2_with fail
          refine (right_is w1 x hy HOK.out).mono ?_
          rintro e w2 ⟨rfl, hw⟩
          rw [hw]
          clear hw
          go_wp2_with fail
          refine (r1find_is w1 A _ c r.dir HD.out x G2.out).mono ?_
          rintro e w2 ⟨rfl, hw⟩
          rw [hw]
          clear hw
          go_wp2_with fail
          refine (r1did_any w1 F b r HR1.out hdn HON.out).mono ?_
          rintro e w3 ⟨rfl, hR3, hk3⟩
          have HR3 := Lib.hid hR3
          have HK3 := Lib.hid hk3
          clear hR3 hk3
          go_wp2
          go_ret
          exact R1Left.stay HR3.out (HK.out.trans HK3.out (fun i _ h => h))
        · rw [if_neg hxy]
          have hne : (x == y) = false := by simpa using hxy
          have HXY := Lib.hid hxy
          clear hxy
          unfold at0
          go_enter Try.func44, Try.ntmps44
          go_wp2_with fail
          refine (r1power_any w F b r HR.out).mono ?_
          rintro e w1 ⟨rfl, hR1, hk⟩
          rw [HO.out]
          rw [HSAME.out] at hR1
          obtain ⟨A, c, k2, hd⟩ := hR1.dirCell
          obtain ⟨ad, p', rfl, hp', d1, d2⟩ := hd.at i hin
          rw [G0.out] at hp'
          cases hp'
          simp only at d2
          have HR1 := Lib.hid hR1
          have HK := Lib.hid hk
          have HD := Lib.hid hd
          have p0 : (0 : Int) ≤ (i : Int) := by omega
          have p1 : (i : Int) < (r.dir.length : Int) := by omega
          clear hR1 hk hd d1
          go_wp2_with fail
          refine (right_is w1 y hy HOK.out).mono ?_
          rintro e w2 ⟨rfl, hw⟩
          rw [hw]
          clear hw
          go_wp2_with fail
          refine (r1find_is w1 (some ad) _ c r.dir HD.out x G2.out).mono ?_
          rintro e w2 ⟨rfl, hw⟩
          rw [hw]
          clear hw
          go_wp2_with fail
          refine (r1change_any w1 F b r HR1.out ⟨x, y, j⟩ hnd hnc (.inr hj) hdn HON.out).mono ?_
          intro e w3 hL
          obtain ⟨rfl, F', hR3, hk3, hF3⟩ := hL
          have HL := Lib.hid (R1Left.later ⟨rfl, F', hR3, hk3, hF3⟩ hb HK.out : R1Left w F b 0 _ (.returned (.int .i64 0)) w3)
          clear hR3 hk3 hF3
          go_wp2
          go_ret
          exact HL.out
end Go.Proofs.Ytblpppeppgfbpaa
