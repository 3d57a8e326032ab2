/- SetsGather. -/
import Derived.Test.YtkligdaademakaaSeWant
import Derived.Test.YtkligdaademakaaSeHead
import Derived.Test.YtkligdaademakaaLRef8
namespace Go.Proofs.Ytkligdaademakaa
open Go.RowKit Go.Maps Go.WideMaps
set_option linter.unusedSimpArgs false

set_option maxHeartbeats 8000000 in
set_option maxRecDepth 100000 in
theorem setsGather_any {S : SetP} (hS : SetsOk S) (W : World) (A : Option Addr) (n c : Nat) (T : List SOp) (h : SOpsSee W A n T) (hn : n ≤ 140737488351232) (hz : ∀ x ∈ T, x.l.length ≤ 140737488351232) :
    Calls Try.prog 3 #[.slice A n c] W fun e w' => e = .returned (.bool true) ∧ Below W.heap.size W w' := by
  have HT := Lib.hid h
  have HZ := Lib.hid hz
  clear h hz
  go_enter Try.func3, Try.ntmps3
  go_wp2_with fail
  refine (seHead_any hS W).mono ?_
  rintro e w1 ⟨rfl, hb1⟩
  have HB1 := Lib.hid hb1
  have HT1 := Lib.hid (HT.out.below hb1)
  clear hb1
  go_wp2_with fail
  refine (seGreat_any w1 A n c T HT1.out hn HZ.out).mono ?_
  rintro e w2 ⟨r, rfl, hw2, hr⟩
  subst hw2
  have HR := Lib.hid hr
  clear hr
  cases r with
  | true =>
    go_wp2
    go_ret
    exact ⟨rfl, HB1.out⟩
  | false =>
    have HSM := Lib.hid (HR.out rfl)
    go_wp2_with fail
    refine (seMade_any hS w2 A n c T HT1.out HSM.out).mono ?_
    rintro e w3 ⟨y, rfl, hy, hp⟩
    have HB3 := Lib.hid (below_then HB1.out hp.below HB1.out.size)
    have HT3 := Lib.hid (HT1.out.below hp.below)
    have HGA := Lib.hid (Pool.gather hS (L := []) (x := y) hp (by rw [hy]; exact wantL_few HSM.out))
    rw [hy] at HGA
    clear hp hy
    go_wp2_with fail
    refine HGA.out.mono ?_
    rintro e w4 ⟨A4, c4, G4, rfl, -, hp4, hm4, hg4, -⟩
    have hb4 : Below w2.heap.size w2 w4 := hp4.below
    have HB4 := Lib.hid (below_then HB1.out hb4 HB1.out.size)
    have HT4 := Lib.hid (HT1.out.below hb4)
    have HM4 := Lib.hid hm4
    clear hp4 hm4 hg4 hb4
    go_wp2_with fail
    refine (seWant_any w4 A n c T HT4.out HSM.out).mono ?_
    rintro e w5 ⟨u, rfl, hno, hb5⟩
    obtain ⟨A5, c5, rfl, -, hi5, -⟩ := hno.see
    have HI5 := Lib.hid hi5
    have HM5 := Lib.hid (HM4.out.goes (Goes.below hb5 (fun (b : Nat) (e : G4 b) => e)))
    have HB5 := Lib.hid (below_then HB4.out hb5 HB4.out.size)
    clear hno hi5 hb5
    go_wp2_with fail
    refine (r3Same_any w5 A4 A5 _ _ c4 c5 _ _ HM5.out.1 HI5.out).mono ?_
    rintro e w6 ⟨rfl, q6, hq6⟩
    rw [decide_eq_true (rfl : wantL T = wantL T)]
    have HB6 : Hid (Below W.heap.size W w6) := Lib.hid (by rw [hq6]; exact below_drewN HB5.out q6)
    clear hq6
    go_wp2
    go_ret
    exact ⟨rfl, HB6.out⟩
end Go.Proofs.Ytkligdaademakaa
