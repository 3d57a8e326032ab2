/- The law PostBack. Printed by mk/back.py. -/
import Derived.Test.YtmcoooepoikgjaaPLaws1
namespace Go.Proofs.Ytmcoooepoikgjaa
open Go.RowKit Go.Maps Go.WideMaps
set_option linter.unusedSimpArgs false

set_option maxHeartbeats 8000000 in
set_option maxRecDepth 100000 in
theorem postBack_any (hK : PostOk) (W : World) (A : Option Addr) (n c : Nat) (l : List Pst) (hl : PostsSz W A n l) (hc : n ≤ c) (B : Option Addr) (m cb : Nat) (b : Nm) (hb : BytesSz W B m b) (hcb : m ≤ cb) :
    Calls Try.prog 4 #[.slice A n c, .slice B m cb] W fun e w' => e = .returned (.bool true) ∧ Below W.heap.size W w' := by
  have HK := Lib.hid hK
  have HH := Lib.hid (postHead_any hK W)
  have HL := Lib.hid hl
  have HBB := Lib.hid hb
  have hm63 : m ≤ 140737488351232 := hb.2
  clear hl hb hK
  go_enter Try.func4, Try.ntmps4
  go_wp2_with fail
  refine HH.out.mono ?_
  rintro e w1 ⟨rfl, hb1⟩
  have HB1 := Lib.hid hb1
  have HG := Lib.hid (postGreat_any w1 A n c l (HL.out.1.below hb1) HL.out.2.2 HL.out.2.1)
  clear hb1
  go_wp2_with fail
  refine HG.out.mono ?_
  rintro e w2 ⟨r, rfl, hw2, hr⟩
  rw [hw2]
  clear hw2
  cases r with
  | true =>
    clear hr
    go_wp2
    go_ret
    exact ⟨rfl, HB1.out⟩
  | false =>
    by_cases hm6 : 60000 < m
    · have d1 : decide ((60000 : Int) < (m : Int)) = true := decide_eq_true (by omega)
      clear hr
      go_wp2
      go_ret
      exact ⟨rfl, HB1.out⟩
    · have d1 : decide ((60000 : Int) < (m : Int)) = false := decide_eq_false (by omega)
      obtain ⟨hn2, hx2⟩ := hr rfl
      have HX2 := Lib.hid (fun x hx => Nat.le_trans (Nat.le_of_lt (hx2 x hx)) (by omega) : ∀ x ∈ l, x.2.length ≤ 1000000)
      obtain ⟨Z, hZ⟩ : ∃ Z, putE l = Z := ⟨_, rfl⟩
      obtain ⟨R, hR⟩ : ∃ R, checkP l = R := ⟨_, rfl⟩
      obtain ⟨G, E, hG⟩ : ∃ G E, getP b = (G, E) := ⟨_, _, rfl⟩
      have HZ := Lib.hid hZ
      have HR := Lib.hid hR
      have HGE := Lib.hid hG
      have HC := Lib.hid (put_is HK.out (HL.out.1.below HB1.out) hc (by omega) HX2.out hZ hR)
      clear hr hx2 hZ hR hG
      go_wp2_with fail
      refine HC.out.mono ?_
      rintro e w3 ⟨A3, c3, rfl, hi3, hc3, -, hb3⟩
      have HB3 := Lib.hid (below_then HB1.out hb3 HB1.out.size)
      by_cases h0 : R = 0
      · subst h0
        have hzl : Z.length ≤ 368803860 := by rw [← HZ.out]; exact putE_len (fit_of HL.out.1)
        have HC3 := Lib.hid (get_is HK.out hi3 hc3 (by omega) (show getP Z = (l, 0) by rw [← HZ.out, putE_good HR.out]; exact get_put (fit_of HL.out.1) HR.out))
        clear hi3 hc3 hb3 HC
        go_wp2_with fail
        refine HC3.out.mono ?_
        rintro e w4 ⟨A4, c4, rfl, hs4, -, hb4⟩
        have HB4 := Lib.hid (below_then HB3.out hb4 HB3.out.size)
        have hsm := same_is (ca := c4) (cb := c) hs4 (HL.out.1.below HB4.out) (show decide (l = l) = true by simp)
        have hll := HL.out.1.len
        rw [hll] at hsm ⊢
        have HSM := Lib.hid hsm
        clear hb4 hs4 HC3 hsm hll
        go_wp2_with fail
        refine HSM.out.mono ?_
        rintro e w5 ⟨rfl, hb5⟩
        have HB5 := Lib.hid (below_then HB4.out hb5 HB4.out.size)
        clear hb5
        have HCG := Lib.hid (get_is HK.out (HBB.out.1.below HB5.out) hcb (by omega) HGE.out)
        go_wp2_with fail
        refine HCG.out.mono ?_
        rintro e w6 ⟨A6, c6, rfl, hs6, hc6, hb6⟩
        have HB6 := Lib.hid (below_then HB5.out hb6 HB5.out.size)
        by_cases hE : E = 0
        · subst hE
          have hg := getP_some (b := b) (by rw [HGE.out])
          rw [HGE.out] at hg
          simp only at hg
          have HC6 := Lib.hid (put_is HK.out hs6 hc6 (Nat.le_trans (check_few hg.1) (by omega)) (fun x hx => Nat.le_trans (check_spots0 hg.1 x hx) (by omega)) (show putE G = b by rw [putE_good hg.1]; exact hg.2) hg.1)
          clear hs6 hc6 hb6 hg HCG
          go_wp2_with fail
          refine HC6.out.mono ?_
          rintro e w7 ⟨A7, c7, rfl, hi7, -, -, hb7⟩
          have HB7 := Lib.hid (below_then HB6.out hb7 HB6.out.size)
          have cv1 := str_of hi7 c7
          have cv2 := str_of (HBB.out.1.below HB7.out) cb
          have d2 : (b == b) = true := by simp
          clear hi7 hb7 HC6
          go_wp2
          go_ret
          exact ⟨rfl, HB7.out⟩
        · have hg0 : G = [] := by
            rcases getP_err b with h | h
            · rw [HGE.out] at h; exact absurd h hE
            · rw [HGE.out] at h; exact (Prod.mk.inj h).1
          subst hg0
          have d3 : (E == 0) = false := by simpa using hE
          have d4 : (E != 0) = true := by simpa using hE
          simp only [List.length_nil]
          clear hs6 hc6 hb6 hE HCG
          go_wp2
          go_ret
          exact ⟨rfl, HB6.out⟩
      · have d2 : (R == 0) = false := by simpa using h0
        have d2' : (R != 0) = true := by simpa using h0
        clear hi3 hc3 hb3 h0 HC
        have HCG := Lib.hid (get_is HK.out (HBB.out.1.below HB3.out) hcb (by omega) HGE.out)
        go_wp2_with fail
        refine HCG.out.mono ?_
        rintro e w6 ⟨A6, c6, rfl, hs6, hc6, hb6⟩
        have HB6 := Lib.hid (below_then HB3.out hb6 HB3.out.size)
        by_cases hE : E = 0
        · subst hE
          have hg := getP_some (b := b) (by rw [HGE.out])
          rw [HGE.out] at hg
          simp only at hg
          have HC6 := Lib.hid (put_is HK.out hs6 hc6 (Nat.le_trans (check_few hg.1) (by omega)) (fun x hx => Nat.le_trans (check_spots0 hg.1 x hx) (by omega)) (show putE G = b by rw [putE_good hg.1]; exact hg.2) hg.1)
          clear hs6 hc6 hb6 hg HCG
          go_wp2_with fail
          refine HC6.out.mono ?_
          rintro e w7 ⟨A7, c7, rfl, hi7, -, -, hb7⟩
          have HB7 := Lib.hid (below_then HB6.out hb7 HB6.out.size)
          have cv1 := str_of hi7 c7
          have cv2 := str_of (HBB.out.1.below HB7.out) cb
          have d2 : (b == b) = true := by simp
          clear hi7 hb7 HC6
          go_wp2
          go_ret
          exact ⟨rfl, HB7.out⟩
        · have hg0 : G = [] := by
            rcases getP_err b with h | h
            · rw [HGE.out] at h; exact absurd h hE
            · rw [HGE.out] at h; exact (Prod.mk.inj h).1
          subst hg0
          have d3 : (E == 0) = false := by simpa using hE
          have d4 : (E != 0) = true := by simpa using hE
          simp only [List.length_nil]
          clear hs6 hc6 hb6 hE HCG
          go_wp2
          go_ret
          exact ⟨rfl, HB6.out⟩
end Go.Proofs.Ytmcoooepoikgjaa
