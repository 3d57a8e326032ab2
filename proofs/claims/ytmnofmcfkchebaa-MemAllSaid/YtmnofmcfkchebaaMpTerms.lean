/- The landed mem's Terms. -/
import Derived.Test.YtmnofmcfkchebaaMpBase
import Derived.Test.YtmnofmcfkchebaaIterI
namespace Go.Proofs.Ytmnofmcfkchebaa
open Go.RowKit Go.Maps Go.WideMaps

set_option maxHeartbeats 4000000 in
set_option maxRecDepth 100000 in
theorem m0Terms_any {w : World} {F : Nat → Prop} {b : Nat} {L : List MDoc} (h : M0 w F b L) (hW : MWF L) (hT : totT L ≤ 20000) : Calls Try.prog 13 #[.pointer (some ⟨b, 0, none⟩)] w (IntsBack w (mTerms L)) := by
  obtain ⟨h1, h2, mb, h3, h4⟩ := h
  obtain ⟨D, hM, hD⟩ := h4.own
  have c0 := h3.cell 0
  simp only [List.getElem?_toArray, List.getElem?_cons_zero] at c0
  have hmax : Maps.size D ≤ maxLen := by have := hM.size_le; unfold maxLen; omega
  have hbytes : Maps.size D * 8 ≤ 140737488355328 := by have := hM.size_le; omega
  have hup := terms_up L
  have hlen := terms_len L
  have hfit : ∀ x ∈ mTerms L, -9223372036854775808 ≤ x ∧ x ≤ 9223372036854775807 := fun x hx => by
    obtain ⟨y, hy, h5⟩ := terms_mem.1 hx
    have h6 := (hW.ok y hy).fit.1 x h5
    obtain ⟨i, hi, rfl⟩ := List.getElem_of_mem h5
    have h7 := ((hW.ok y hy).tok hi).1
    rw [List.getD_eq_getElem?_getD, List.getElem?_eq_getElem hi] at h7
    simp only [Option.getD_some] at h7
    omega
  have HKE := Lib.hid ((callsIn_wide (n := 5)).1 (Try.imaps_Keys (some mb) w))
  have hso : Calls Try.prog 21 #[.func (.func 27) #[] #[.pointer (some ⟨w.heap.size, 0, none⟩)]] (w.alloc (.cells #[.map (some mb)] 50)) (IntsBack w (mTerms L)) := by
    refine ((callsIn_wide (n := 5)).1 (Try.islices_Sorted_keys mb (totT L) D _ w hM hmax hbytes)).mono ?_
    rintro e2 w2 ⟨v, ss, rfl, hP, hrow, hnil, hb⟩
    have hk1 : ss.mergeSort leI = mTerms L := PMap.keys hM hD hup (fun t => plOf_some.symm) hP
    have hrow' : w2.ownsRow (w.alloc (.cells #[.map (some mb)] 50)).heap.size 3 1 v ss.length ((ss.mergeSort leI).map i64V) := hrow
    have hsl : ss.length = (mTerms L).length := by rw [← hk1]; exact (List.mergeSort_perm ss leI).length_eq.symm
    rw [hk1, hsl] at hrow'
    obtain ⟨A, c, rfl, hc⟩ := own_cap hrow'
    exact ⟨A, c, rfl, IntsIn.own hrow' (by unfold maxLen; omega) hfit, hc, ((Below.refl _ w).alloc (Nat.le_refl _) _).trans (hb.mono (by simp))⟩
  have HSO := Lib.hid hso
  clear hso hmax hbytes hfit hup hM hD h4 h3 h2 h1
  go_enter Try.func13, Try.ntmps13
  go_wp2_with (first
    | (go_at_call 22; refine HKE.out.mono ?_; rintro e2 w2 ⟨rfl, rfl⟩)
    | (go_at_call 21; refine HSO.out.mono ?_; rintro e2 w2 ⟨Ak, ck, rfl, hki, hck, hb2⟩))
  go_ret
  exact ⟨Ak, ck, rfl, hki, hck, hb2⟩
end Go.Proofs.Ytmnofmcfkchebaa
