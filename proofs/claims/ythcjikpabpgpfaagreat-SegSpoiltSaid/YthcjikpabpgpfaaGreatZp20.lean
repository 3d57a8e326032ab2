import Derived.Test.YthcjikpabpgpfaaGreatZp0
import Derived.Test.YthcjikpabpgpfaaGreatZp17
import Derived.Test.YthcjikpabpgpfaaGreatZp6
import Derived.Lib.SmallJoins
set_option linter.unusedSimpArgs false
set_option maxHeartbeats 16000000
set_option maxRecDepth 100000
namespace Go.Proofs.YthcjikpabpgpfaaGreat
open Go.RowKit Go.Maps Go.WideMaps
theorem twos_oneC (l : List (Int × Int)) : ∀ u ∈ l.flatMap twoCells, u.oneCell' = true := fun u hu => by
 obtain ⟨p, _, h⟩ := List.mem_flatMap.1 hu
 simp [twoCells] at h
 rcases h with rfl | rfl <;> rfl
def SpotsOut2 (w : World) (l : List (Int × Int)) (e : Ending) (w' : World) : Prop := ∃ A c, e = .returned (.slice A l.length c) ∧ PairsIn w' A l.length l ∧ l.length ≤ c ∧ (∀ ad, A = some ad → 0 < l.length → w.heap.size ≤ ad.block ∧ ad.block < w'.heap.size) ∧ Below w.heap.size w w'
theorem cloneSp_any (w : World) (B : Option Addr) (m c : Nat) (M : List (Int × Int)) (hM : PairsIn w B m M) (hm : m ≤ 1048576) :
  Calls Tryz.prog 71 #[.slice B m c] w fun e w' => ∃ v, e = .returned v ∧ w'.ownsRow w.heap.size 64 2 v m (M.flatMap twoCells) ∧ Below w.heap.size w w' := by
 obtain ⟨i0, hi, hz0, hz1, hz2⟩ := info_parts spotInfo
 have q22 : ∀ (w : World) (a : Option Addr) (n c n' c' : Nat), (binOp .eql 60 (.slice a n c) (.slice none n' c')).run Tryz.prog w = .ok (.bool a.isNone) w := fun w a n c n' c' => Lib.run_eql_slice_nil w _ _ a n c n' c' Tryz.underlying60
 have hl := hM.len
 cases B with
 | none =>
  have h0 := hM.nil rfl
  have hx : M = [] := List.eq_nil_of_length_eq_zero (by omega)
  subst h0 hx
  clear hM hl
  go_enter Tryz.func71, Tryz.ntmps71
  go_wp2
  go_ret
  exact ⟨_, rfl, ⟨rfl, .inl ⟨rfl, rfl⟩⟩, Below.refl _ _⟩
 | some ad =>
  have HS := Lib.hid (pairs_src (hM.below ((Below.refl _ w).alloc (Nat.le_refl _) (.cells #[] 64))))
  have HLEN := Lib.hid (two_len M)
  have HL := Lib.hid hl
  have HONE := Lib.hid (twos_oneC M)
  clear hM hl
  go_enter Tryz.func71, Tryz.ntmps71
  go_wp2_with (at_builtin; refine wpList_append_own_at _ rfl (.tmp 5) (.tmp 6) 60 rfl w.heap.size 64 i0 _ 2 16 Tryz.underlying60 hi hz0 hz1 hz2 rfl (by decide) _ 0 [] rfl (World.ownsRow_made w #[] 0 (Nat.le_refl _) (Nat.zero_le _) rfl) ad m c (M.flatMap twoCells) rfl (by rw [HLEN.out, HL.out]) HS.out HONE.out (by unfold maxLen; omega) (by omega) (by simp) ?_; intro v w2 hown hgrow hnil hloc; clear hnil; rw [Nat.zero_add, List.nil_append] at hown; have HO := Lib.hid hown; have HB : Hid (Below w.heap.size w w2) := Lib.hid ((((Below.refl _ w).alloc (Nat.le_refl _) (.cells #[] 64)).grown hgrow (by simp) (fun k e => by cases e; exact Nat.le_refl _))); clear hown hgrow hloc)
  go_ret
  exact ⟨_, rfl, HO.out, HB.out⟩
theorem k0_spotsN {w : World} {F : Nat → Prop} {b : Nat} {s : CSt} (h : K0 w F b s) : Calls Tryz.prog 27 #[.pointer (some ⟨b, 0, none⟩)] w (SpotsOut2 w (cSpots s)) := by
 have hV := h.1
 obtain ⟨A, n, c, l, c0, hs, h0, h1⟩ := k0_see h
 clear h
 unfold cSpots
 rcases Nat.eq_zero_or_pos n with hn | hn
 ·have h2 := h0.1 hn
  rw [if_neg (by omega)]
  subst hn
  clear h0 h1 hs hV
  go_enter Tryz.func27, Tryz.ntmps27
  go_wp2
  go_ret
  exact ⟨none, 0, rfl, ⟨rfl, Nat.zero_le _, by simp, fun _ => rfl, fun ad e => (by cases e)⟩, Nat.le_refl _, fun ad e => (by cases e), Below.refl _ _⟩
 ·have h2 : s.at_ < s.l.length := by
   rcases Nat.lt_or_ge s.at_ s.l.length with h3 | h3
   ·exact h3
   ·have := h0.2 h3; omega
  rw [if_pos h2]
  have hsp := hV.spots _ (pAt_mem h2)
  obtain ⟨pa, x, SA, da, rfl, hx, -, -, a1, -, hsx⟩ := hs.at 0 hn
  have hpx := pAt_eq hx
  rw [h1 hn] at hpx
  rw [hpx] at hsp ⊢
  have d1 : ((n : Int) == 0) = false := beq_eq_false_iff_ne.2 (by omega)
  have a1' : w.cell? ⟨pa.block, pa.off + 1, none⟩ = some (.slice SA x.2.length da) := by simpa [Addr.add] using a1
  obtain ⟨X, hX⟩ : ∃ X, X = x.2 := ⟨_, rfl⟩
  rw [← hX] at a1 a1' hsx hsp ⊢
  obtain ⟨m, hm⟩ : ∃ m, m = X.length := ⟨_, rfl⟩
  have HCL := Lib.hid (cloneSp_any w SA m da X (by rw [hm]; exact hsx) (by omega))
  have HVL := Lib.hid hsx.vals
  have HM := Lib.hid hm
  rw [← hm] at a1 a1' hsp
  clear h0 h1 hs hx hpx h2 hV hX hsx hm
  go_enter Tryz.func27, Tryz.ntmps27
  go_wp2_with fail
  refine HCL.out.mono ?_
  rintro e w1 ⟨v, rfl, ho, hb⟩
  have HO := Lib.hid ho
  have HB := Lib.hid hb
  obtain ⟨V, cv, rfl⟩ := own_slice ho
  clear ho hb
  go_wp2
  go_ret
  unfold SpotsOut2
  rw [← HM.out]
  exact ⟨V, cv, rfl, PairsIn.ownTwo HO.out HM.out.symm (by unfold maxLen; omega) HVL.out, rowCap_le HO.out, fun ad e _ => HO.out.lt ad.block (by rw [e]; rfl), HB.out⟩
end Go.Proofs.YthcjikpabpgpfaaGreat
