/- The law PostTells. -/
import Derived.Test.YtmcoooepoikgjaaPHead
import Derived.Test.YtmcoooepoikgjaaPRef3
namespace Go.Proofs.Ytmcoooepoikgjaa
open Go.RowKit Go.Maps Go.WideMaps
set_option linter.unusedSimpArgs false

theorem same_is {w : World} {A B : Option Addr} {n m ca cb : Nat} {a b : List Pst} (ha : PostsSee w A n a) (hb : PostsSee w B m b) {r : Bool} (h : decide (a = b) = r) : Calls Try.prog 13 #[.slice A n ca, .slice B m cb] w fun e w' => e = .returned (.bool r) ∧ Below w.heap.size w w' := by
  subst h
  exact (r9Same_any w A B n m ca cb a b ha hb).mono fun e w' ⟨he, q, hw⟩ => ⟨he, by rw [hw]; exact below_drewN (Below.refl _ _) q⟩

set_option maxHeartbeats 8000000 in
set_option maxRecDepth 100000 in
theorem postTells_any (hK : PostOk) (W : World) (A : Option Addr) (n c : Nat) (l : List Pst) (hl : PostsSz W A n l) (hc : n ≤ c) (B : Option Addr) (m cb : Nat) (b : Nm) (hb : BytesSz W B m b) (hcb : m ≤ cb) :
    Calls Try.prog 3 #[.slice A n c, .slice B m cb] W fun e w' => e = .returned (.bool true) ∧ Below W.heap.size W w' := by
  have HK := Lib.hid hK
  have HH := Lib.hid (postHead_any hK W)
  have HL := Lib.hid hl
  have HBB := Lib.hid hb
  have hm63 : m ≤ 140737488351232 := hb.2
  clear hl hb hK
  go_enter Try.func3, Try.ntmps3
  go_wp2_with fail
  refine HH.out.mono ?_
  rintro e w1 ⟨rfl, hb1⟩
  have HB1 := Lib.hid hb1
  have HG := Lib.hid (postGreat_any w1 A n c l (HL.out.1.below hb1) HL.out.2.2 HL.out.2.1)
  clear hb1
  go_wp2_with fail
  refine HG.out.mono ?_
  rintro e w2 ⟨r, rfl, hw2, hr⟩
  rw [hw2]
  clear hw2
  cases r with
  | true =>
    clear hr
    go_wp2
    go_ret
    exact ⟨rfl, HB1.out⟩
  | false =>
    by_cases hm6 : 60000 < m
    · have d1 : decide ((60000 : Int) < (m : Int)) = true := decide_eq_true (by omega)
      clear hr
      go_wp2
      go_ret
      exact ⟨rfl, HB1.out⟩
    · have d1 : decide ((60000 : Int) < (m : Int)) = false := decide_eq_false (by omega)
      obtain ⟨hn2, hx2⟩ := hr rfl
      have HX2 := Lib.hid (fun x hx => Nat.le_trans (Nat.le_of_lt (hx2 x hx)) (by omega) : ∀ x ∈ l, x.2.length ≤ 1000000)
      obtain ⟨Z, hZ⟩ : ∃ Z, putE l = Z := ⟨_, rfl⟩
      obtain ⟨R, hR⟩ : ∃ R, checkP l = R := ⟨_, rfl⟩
      obtain ⟨G, E, hG⟩ : ∃ G E, getP b = (G, E) := ⟨_, _, rfl⟩
      have HZ := Lib.hid hZ
      have HR := Lib.hid hR
      have HGE := Lib.hid hG
      have HC := Lib.hid (put_is HK.out (HL.out.1.below HB1.out) hc (by omega) HX2.out hZ hR)
      clear hr hx2 hZ hR hG
      go_wp2_with fail
      refine HC.out.mono ?_
      rintro e w3 ⟨A3, c3, rfl, hi3, -, -, hb3⟩
      have HB3 := Lib.hid (below_then HB1.out hb3 HB1.out.size)
      have HI3 := Lib.hid hi3
      have HC3 := Lib.hid (put_found (fit_of HL.out.1) (r9Put_any w3 A n c l (HL.out.1.below HB3.out) (by omega)) HZ.out HR.out)
      clear hb3 hi3 HC
      go_wp2_with fail
      refine HC3.out.mono ?_
      rintro e w4 ⟨A4, c4, rfl, hi4, -, -, hb4⟩
      have HB4 := Lib.hid (below_then HB3.out hb4 HB3.out.size)
      have HI4 := Lib.hid (HI3.out.below hb4)
      have HJ4 := Lib.hid hi4
      have HC4 := Lib.hid (get_is HK.out (HBB.out.1.below HB4.out) hcb (by omega) HGE.out)
      clear hb4 hi4 HC3
      go_wp2_with fail
      refine HC4.out.mono ?_
      rintro e w5 ⟨A5, c5, rfl, hs5, -, hb5⟩
      have HB5 := Lib.hid (below_then HB4.out hb5 HB4.out.size)
      have HI5 := Lib.hid (HI4.out.below hb5)
      have HJ5 := Lib.hid (HJ4.out.below hb5)
      have HS5 := Lib.hid hs5
      have HC5 := Lib.hid (get_found (r9Get_any w5 B m cb b (HBB.out.1.below HB5.out) hcb (by omega)) HGE.out)
      clear hb5 hs5 HC4
      go_wp2_with fail
      refine HC5.out.mono ?_
      rintro e w6 ⟨A6, c6, rfl, hs6, -, hb6⟩
      have HB6 := Lib.hid (below_then HB5.out hb6 HB5.out.size)
      have cv1 := str_of (HI5.out.below hb6) c3
      have cv2 := str_of (HJ5.out.below hb6) c4
      have HSM := Lib.hid (same_is (ca := c5) (cb := c6) (HS5.out.below hb6) hs6 (show decide (G = G) = true by simp))
      have d2 : (Z == Z) = true := by simp
      have d3 : (R == R) = true := by simp
      have d4 : (E == E) = true := by simp
      clear hb6 hs6 HC5
      go_wp2_with fail
      refine HSM.out.mono ?_
      rintro e w7 ⟨rfl, hb7⟩
      have HB7 := Lib.hid (below_then HB6.out hb7 HB6.out.size)
      clear hb7 cv1 cv2
      go_wp2
      go_ret
      exact ⟨rfl, HB7.out⟩
end Go.Proofs.Ytmcoooepoikgjaa
