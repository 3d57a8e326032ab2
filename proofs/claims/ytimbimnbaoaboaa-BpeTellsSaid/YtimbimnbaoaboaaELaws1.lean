/- BpeAgain, walked. -/
import Derived.Test.YtimbimnbaoaboaaEHead
import Derived.Test.YtimbimnbaoaboaaERef1
namespace Go.Proofs.Ytimbimnbaoaboaa
open Go.RowKit Go.Maps Go.WideMaps
set_option linter.unusedSimpArgs false

theorem pairsIn {H : Type} {enc : TypeId × Value → H} {w : World} {A : Option Addr} {n c : Nat} {x : DataW H × List MemPlace} {fuel : Nat} {base : Nat} {spare : Nat → Bool} {held : Bool} (h : DataW.trod enc Try.prog w base spare held fuel 22 [.slice A n c] = some x) (_ : Sized 22 x.1) : ∃ l, PairsIn w A n l :=
  pairs_in Try.underlying22 (by kernel_rfl) (pair_in Try.underlying49 rfl rfl rfl (by kernel_rfl) Try.underlying3 Try.underlying3 (by kernel_rfl) (by kernel_rfl) rfl rfl) h
set_option maxHeartbeats 8000000 in
set_option maxRecDepth 100000 in
theorem bpeAgain_any (w : World) (A : Option Addr) (n c : Nat) (ps : List (Int × Int)) (hp : PairsIn w A n ps) (hc : n ≤ c) (B : Option Addr) (p cp : Nat) (s : Nm) (hs : BytesIn w B p s) (C : Option Addr) (q cq : Nat) (t : Nm) (ht : BytesIn w C q t) :
    Calls Try.prog 6 #[.slice A n c, .slice B p cp, .slice C q cq] w fun e w' => e = .returned (.bool true) ∧ Below w.heap.size w w' := by
  have HP := Lib.hid hp
  have HS := Lib.hid hs
  have HT := Lib.hid ht
  have HC := Lib.hid hc
  have hn63 : n ≤ 9223372036854775807 := hp.fit
  have hp63 : p ≤ 9223372036854775807 := hs.1
  have hq63 : q ≤ 9223372036854775807 := ht.1
  obtain ⟨V, hV⟩ : ∃ V, ofV ps = V := ⟨_, rfl⟩
  have HV := Lib.hid hV
  have HO := Lib.hid (ofV_ok ps)
  rw [hV] at HO
  obtain ⟨l1, hl1⟩ : ∃ l, encR V.mer s = l := ⟨_, rfl⟩
  obtain ⟨l2, hl2⟩ : ∃ l, encR V.mer t = l := ⟨_, rfl⟩
  obtain ⟨k1, hk1⟩ : ∃ k, l1.length = k := ⟨_, rfl⟩
  obtain ⟨k2, hk2⟩ : ∃ k, l2.length = k := ⟨_, rfl⟩
  obtain ⟨r1, hr1⟩ : ∃ r, encE s = r := ⟨_, rfl⟩
  obtain ⟨r2, hr2⟩ : ∃ r, encE t = r := ⟨_, rfl⟩
  have HL1 := Lib.hid hl1
  have HL2 := Lib.hid hl2
  have HK1 := Lib.hid hk1
  have HK2 := Lib.hid hk2
  have HR1 := Lib.hid hr1
  have HR2 := Lib.hid hr2
  clear hp hs ht hc hV hl1 hl2 hk1 hk2 hr1 hr2
  go_enter Try.func6, Try.ntmps6
  go_wp2_with fail
  refine (bpeHead_any w).mono ?_
  rintro e w1 ⟨rfl, hb⟩
  have HB1 := Lib.hid hb
  clear hb
  by_cases hbig : 100 < n ∨ 4096 < p ∨ 4096 < q
  · rcases Nat.lt_or_ge 100 n with h1 | h1
    · have d1 : (100 : Int) < (n : Int) := by omega
      go_wp2
      go_ret
      exact ⟨rfl, HB1.out⟩
    · have d1 : ¬ (100 : Int) < (n : Int) := by omega
      rcases Nat.lt_or_ge 4096 p with h2 | h2
      · have d2 : (4096 : Int) < (p : Int) := by omega
        go_wp2
        go_ret
        exact ⟨rfl, HB1.out⟩
      · have d2 : ¬ (4096 : Int) < (p : Int) := by omega
        have d3 : (4096 : Int) < (q : Int) := by omega
        go_wp2
        go_ret
        exact ⟨rfl, HB1.out⟩
  have d1 : ¬ (100 : Int) < (n : Int) := by omega
  have d2 : ¬ (4096 : Int) < (p : Int) := by omega
  have d3 : ¬ (4096 : Int) < (q : Int) := by omega
  have hn100 : n ≤ 100 := by omega
  clear hbig
  go_wp2_with fail
  refine (of_is w1 A n c ps (HP.out.below HB1.out) (by omega) HC.out HV.out).mono ?_
  rintro e w2 ⟨AT, BM, n', m', ca, cb, rfl, hsee, hb⟩
  have HB2 := Lib.hid (below_then HB1.out hb HB1.out.size)
  have HSEE := Lib.hid hsee
  clear hb hsee
  go_wp2_with fail
  refine (new_is w2 AT BM n' m' ca cb V HSEE.out HO.out).mono ?_
  rintro e w3 ⟨b, rfl, hb, hC⟩
  have HB3 := Lib.hid (below_then HB2.out hb HB2.out.size)
  have HC3 := Lib.hid hC
  clear hb hC
  go_wp2_with fail
  refine (encode_is w3 b V HC3.out HO.out B p cp s (HS.out.below HB3.out) HL1.out HK1.out HR1.out).mono ?_
  rintro e w4 ⟨A4, c4, rfl, hi4, _, hb⟩
  have HB4 := Lib.hid (below_then HB3.out hb HB3.out.size)
  have HC4 := Lib.hid (HC3.out.below hb)
  have HI4 := Lib.hid hi4
  clear hb hi4
  go_wp2_with fail
  refine (encode_is w4 b V HC4.out HO.out C q cq t (HT.out.below HB4.out) HL2.out HK2.out HR2.out).mono ?_
  rintro e w5 ⟨A5, c5, rfl, _, _, hb⟩
  have HB5 := Lib.hid (below_then HB4.out hb HB4.out.size)
  have HC5 := Lib.hid (HC4.out.below hb)
  have HI5 := Lib.hid (HI4.out.below hb)
  clear hb
  go_wp2_with fail
  refine (decode_is w5 b V HC5.out HO.out A4 k1 c4 l1 HI5.out rfl rfl rfl).mono ?_
  rintro e w6 ⟨A6, c6, rfl, _, _, hb⟩
  have HB6 := Lib.hid (below_then HB5.out hb HB5.out.size)
  have HC6 := Lib.hid (HC5.out.below hb)
  have HI6 := Lib.hid (HI5.out.below hb)
  clear hb
  go_wp2_with fail
  refine (encode_is w6 b V HC6.out HO.out B p cp s (HS.out.below HB6.out) HL1.out HK1.out HR1.out).mono ?_
  rintro e w7 ⟨A7, c7, rfl, hi7, _, hb⟩
  have HB7 := Lib.hid (below_then HB6.out hb HB6.out.size)
  have HI7 := Lib.hid (HI6.out.below hb)
  have HJ7 := Lib.hid hi7
  clear hb hi7
  go_wp2_with fail
  refine (r6Same_any w7 A4 A7 k1 k1 c4 c7 l1 l1 HI7.out HJ7.out).mono ?_
  rintro e w8 ⟨rfl, z, rfl⟩
  have HB8 := Lib.hid (below_drewN HB7.out z)
  rw [decide_eq_true rfl]
  go_wp2
  go_ret
  exact ⟨rfl, HB8.out⟩
end Go.Proofs.Ytimbimnbaoaboaa
