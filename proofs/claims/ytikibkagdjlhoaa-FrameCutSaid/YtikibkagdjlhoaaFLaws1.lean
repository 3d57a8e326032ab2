/- FrameCut, walked. -/
import Derived.Test.YtikibkagdjlhoaaFHead
namespace Go.Proofs.Ytikibkagdjlhoaa
open Go.RowKit Go.Maps Go.WideMaps Go.Shelf

set_option maxHeartbeats 8000000 in
set_option maxRecDepth 100000 in
theorem frameCut_any (w : World) (A : Option Addr) (n c : Nat) (l : Nm) (hl : BytesIn w A n l) (cut : Nat) (hcut : cut < 65536) (t : Nat) (ht : t < 65536) (y : UInt8) :
    Calls Try.prog 5 #[.slice A n c, .int .u16 cut, .int .u16 t, .int .u8 y.toNat] w fun e w' => e = .returned (.bool true) ∧ Below w.heap.size w w' := by
  have HL := Lib.hid hl
  clear hl
  have hn63 : n ≤ 9223372036854775807 := HL.out.1
  have hy := y.toNat_lt
  go_enter Try.func5, Try.ntmps5
  go_wp2_with fail
  refine (frameHead_any w).mono ?_
  rintro e w1 ⟨rfl, hb⟩
  have B1 := Lib.hid hb
  have L1 := Lib.hid (HL.out.below hb)
  clear hb
  by_cases hbig : 100 < n
  · have hbz : (100 : Int) < (n : Int) := by omega
    go_wp2
    go_ret
    exact ⟨rfl, B1.out⟩
  have hbz : ¬ (100 : Int) < (n : Int) := by omega
  by_cases hy0 : y.toNat = 0
  · have hy0z : (y.toNat : Int) = 0 := by omega
    go_wp2
    go_ret
    exact ⟨rfl, B1.out⟩
  have hy0z : ¬ (y.toNat : Int) = 0 := by omega
  have qy : ((y.toNat : Int) == 0) = false := by simpa using hy0
  have hln : l.length = n := by have := HL.out.2.1.len; simpa using this
  obtain ⟨m, hm⟩ : ∃ m, m = n + 5 := ⟨_, rfl⟩
  obtain ⟨F, hF⟩ : ∃ F, F = putF l := ⟨_, rfl⟩
  have hp1 : (putL l.length).length = 1 := by rw [putL_small (by omega)]; rfl
  have hFm : F.length = m := by rw [hF, putF_len, hp1]; omega
  have HFM := Lib.hid hFm
  have HF := Lib.hid hF
  have hmz : (n : Int) + 5 = (m : Int) := by omega
  have hmz2 : ((m : Int) != (m : Int)) = false := by simp
  have hm5 : 5 ≤ m := by omega
  have hm105 : m ≤ 105 := by omega
  obtain ⟨q, hq⟩ : ∃ q, q = cut % m := ⟨_, rfl⟩
  have hqm : q < m := by rw [hq]; exact Nat.mod_lt cut (by omega)
  have hqz : (cut : Int) % (m : Int) = (q : Int) := by rw [hq]; simp
  obtain ⟨K, hK⟩ : ∃ K, K = t % (m - 1) := ⟨_, rfl⟩
  have hKn : K < m - 1 := by rw [hK]; exact Nat.mod_lt t (by omega)
  have hKn' : (K : Int) < (m : Int) - 1 := by omega
  have hKz : (t : Int) % ((m : Int) - 1) = (K : Int) := by
    rw [hK, Int.natCast_emod]
    congr 1
    omega
  obtain ⟨j, hj⟩ : ∃ j, j = 1 + K := ⟨_, rfl⟩
  have hjz : 1 + (K : Int) = (j : Int) := by omega
  have hj1 : 1 ≤ j := by omega
  have hjm : j < m := by omega
  have hjm' : (j : Int) < (m : Int) := by omega
  clear hj
  have HCUT : Hid (getF (F.take q) = ([], 0, 31)) := Lib.hid (by rw [hF]; exact getF_cut l (by omega) (by rw [← hF, hFm]; exact hqm))
  obtain ⟨x, hx⟩ : ∃ x, F[j]? = some x := ⟨F[j]'(by omega), List.getElem?_eq_getElem _⟩
  have hxy : bits .xor .u8 (x.toNat : Int) (y.toNat : Int) = ((x ^^^ y).toNat : Int) := by
    have h1 := x.toNat_lt
    rw [u8_xor_nat _ _ (by omega) (by omega)]
    simp
  obtain ⟨z, hz⟩ : ∃ z, z = x ^^^ y := ⟨_, rfl⟩
  rw [← hz] at hxy
  have hzx : z ≠ x := fun e => hy0 (by
    rw [e] at hz
    have h2 : x.toNat = x.toNat ^^^ y.toNat := by rw [← UInt8.toNat_xor, ← hz]
    have h3 := xor_inj (a := x.toNat) (b := 0) (c := y.toNat) (by rw [Nat.xor_zero]; exact h2)
    omega)
  have HTURN : Hid (getF (F.set j z) = ([], 0, 41)) := Lib.hid (by
    rw [hF] at hx ⊢
    exact getF_turned l (by omega) (by omega) hx hzx)
  have HX : Hid ((F.map byteV)[j]? = some (.int .u8 x.toNat)) := Lib.hid (by rw [List.getElem?_map, hx]; rfl)
  clear hF hFm hp1 hq hK hx hz hzx hln hm
  go_wp2_with fail
  refine (fPut_any w1 A n c l L1.out (by omega)).mono ?_
  rintro e w2 ⟨v2, rfl, hO2, hB2⟩
  rw [← HF.out, HFM.out] at hO2
  obtain ⟨g, cap, rfl⟩ := Go.Joins.ownsRow_form hO2 (by omega)
  obtain ⟨_, _, hv, hcap⟩ := own_cap hO2
  cases hv
  have B2 := Lib.hid (below_then B1.out hB2 B1.out.size)
  have O2 := Lib.hid hO2
  have I2 := Lib.hid ((BytesIn.own hO2 (by unfold maxLen; omega)).upto q (by omega))
  have s1 : ∀ w, (Instr.slice 22 (.slice (some ⟨g, 0, none⟩) m cap) none (some (.int .i64 q)) none).run Try.prog w = .ok (.slice (some ⟨g, 0, none⟩) q cap) w := fun w => slice_to w _ m cap q (by omega)
  clear hO2 hB2
  go_wp2_with fail
  refine (fGet_any w2 (some ⟨g, 0, none⟩) q cap (F.take q) I2.out (by omega) (by omega)).mono ?_
  rintro e w3 ⟨v3, rfl, hO3, hB3⟩
  rw [HCUT.out] at hO3 ⊢
  have hO3' : w3.ownsRow w2.heap.size 5 1 v3 0 [] := hO3
  obtain ⟨A3, c3, hv3⟩ := own_slice hO3'
  subst hv3
  have B3 := Lib.hid (below_then B2.out hB3 B2.out.size)
  have hown := ownsRow_block O2.out fun b hb => hB3.block b (O2.out.lt b hb).2
  have c1 := (hown.cellAt j (by omega)).trans HX.out
  have z1 := hown.frozenAt j
  have O3 := Lib.hid hown
  have hg1 : w1.heap.size ≤ g := (hown.lt g rfl).1
  have hs1 := B1.out.size
  clear hown hO3 hO3' hB3
  go_wp2_with fail
  have hset : Below w.heap.size w (w3.setCell ⟨g, j, none⟩ (.int .u8 z.toNat)) := B3.out.setCell (by show _ ≤ g; omega) _
  have I4 : Hid (BytesIn (w3.setCell ⟨g, j, none⟩ (.int .u8 z.toNat)) (some ⟨g, 0, none⟩) m (F.set j z)) := Lib.hid (by
    have h := (O3.out.stored j (.int .u8 z.toNat)).1
    refine BytesIn.own (base := w1.heap.size) (c := cap) ?_ (by unfold maxLen; omega)
    rw [List.map_set]
    exact h)
  have B4 := Lib.hid hset
  clear hset
  refine (fGet_any _ (some ⟨g, 0, none⟩) m cap _ I4.out hcap (by omega)).mono ?_
  rintro e w5 ⟨v5, rfl, hO5, hB5⟩
  rw [HTURN.out] at hO5 ⊢
  have B5 := Lib.hid (below_then B4.out hB5 B4.out.size)
  clear hO5 hB5
  go_wp2
  go_ret
  exact ⟨rfl, B5.out⟩
end Go.Proofs.Ytikibkagdjlhoaa
