/- The contract of the program's Get. -/
import Derived.Test.YtdmhaaplgkilpaaFProg1
import Derived.Test.YtdmhaaplgkilpaaKEqual
import Derived.Test.YtdmhaaplgkilpaaKClone
import Derived.Deep.RegionHeld3
namespace Go.Proofs.Ytdmhaaplgkilpaa
open Go.RowKit Go.Maps Go.WideMaps

theorem le4_iff {l : List UInt8} {s : Nat} (hl : 4 ≤ l.length) (hs : s < 4294967296) : l.take 4 = le4 s ↔ s = un4 l := by
  obtain ⟨a, b, c, d, r, rfl⟩ := four hl
  constructor
  · intro h
    have h1 : a :: b :: c :: d :: r = le4 s ++ r := by
      rw [← h]
      rfl
    rw [h1, un4_le4 hs]
  · rintro rfl
    rw [le4_un4]
    rfl
/-- Inside a region that draws, more may be known from here on. -/
theorem heldMore {P : Program} {md : Region.Mode} {ops : Array Oper} {Q : Exit → Act → World → Prop} {S S' : World → Prop} (h : ∀ w, S' w → S w) : ∀ (fuel : Nat) (listed : Array Bool) (a : Act) (w : World), wpAnyH P md ops Q S' fuel listed a w → wpAnyH P md ops Q S fuel listed a w
  | 0, _, _, _, k => k
  | fuel + 1, _, _, _, k => ⟨k.1, fun i hi => wpOp_mono (fun a' w' h' => ⟨h w' h'.1, heldMore h fuel _ a' w' h'.2⟩) (k.2 i hi)⟩

set_option linter.unusedSimpArgs false in
set_option maxHeartbeats 4000000 in
set_option maxRecDepth 100000 in
theorem fGet_any (w : World) (A : Option Addr) (n c : Nat) (l : Nm) (hl : BytesIn w A n l) (hc : n ≤ c) (hn : n ≤ 1099511627776) :
    Calls Try.prog 23 #[.slice A n c] w (GetFOut w (getF l)) := by
  have HL := Lib.hid hl
  have hln : l.length = n := by have := hl.2.1.len; simpa using this
  have HLN := Lib.hid hln
  clear hl hln
  obtain ⟨N, k, e, hg⟩ : ∃ N k e, getL l = (N, k, e) := ⟨_, _, _, rfl⟩
  obtain ⟨G, hG⟩ : ∃ G, G = getF l := ⟨_, rfl⟩
  rw [← hG]
  unfold getF at hG
  rw [hg] at hG
  simp only at hG
  have HGG := Lib.hid hg
  by_cases he : e = 0
  · subst he
    obtain ⟨g1, g2, g3, g4, g5⟩ := getL_inv hg
    rw [HLN.out] at g3
    rw [if_neg (by simp)] at hG
    clear hg g4
    by_cases hbig : 262144 < N
    · have hbz : (262144 : Int) < (N : Int) := by omega
      rw [if_pos hbig] at hG
      have HG := Lib.hid hG
      clear hG
      go_enter Try.func23, Try.ntmps23
      go_wp2_with fail
      refine (lGet_is w A n c l HL.out HGG.out).mono ?_
      rintro e2 w2 ⟨rfl, hw⟩
      rw [hw]
      clear hw
      go_wp2
      go_ret3
      exact gferr HG.out (Below.refl _ _)
    have hbz : ¬ (262144 : Int) < (N : Int) := by omega
    rw [if_neg hbig] at hG
    obtain ⟨E, hE⟩ : ∃ E, E = k + 4 + N := ⟨_, rfl⟩
    have hK4 : IntKind.i64.wrap ((k : Int) + 4) = (k : Int) + 4 := IntWalk.i64_in _ (by omega)
    have hNz : IntKind.i64.wrap (N : Int) = (N : Int) := IntWalk.i64_in _ (by omega)
    have hEz : IntKind.i64.wrap ((k : Int) + 4 + (N : Int)) = (E : Int) := by rw [IntWalk.i64_in _ (by omega)]; omega
    rw [← hE, HLN.out] at hG
    obtain ⟨K4, hK4'⟩ : ∃ K, K = k + 4 := ⟨_, rfl⟩
    have e4 : (k : Int) + 4 = (K4 : Int) := by omega
    have e5 : (K4 : Int) + (N : Int) = (E : Int) := by omega
    by_cases hend : n < E
    · have hendz : (n : Int) < (E : Int) := by omega
      rw [if_pos hend] at hG
      have HG := Lib.hid hG
      clear hG hE hK4'
      go_enter Try.func23, Try.ntmps23
      go_wp2_with fail
      refine (lGet_is w A n c l HL.out HGG.out).mono ?_
      rintro e2 w2 ⟨rfl, hw⟩
      rw [hw]
      clear hw
      go_wp2
      go_ret3
      exact gferr HG.out (Below.refl _ _)
    have hendz : ¬ (n : Int) < (E : Int) := by omega
    rw [if_neg hend] at hG
    obtain ⟨x, hx⟩ : ∃ x, x = (l.drop (k + 4)).take N := ⟨_, rfl⟩
    obtain ⟨y, hy⟩ : ∃ y, y = (l.drop k).take 4 := ⟨_, rfl⟩
    have s3 : ∀ w, (Instr.slice 23 (.slice A n c) (some (.int .i64 K4)) (some (.int .i64 E)) none).run Try.prog w = .ok (.slice (cutAddr A K4 c) N (c - K4)) w := fun w => by
      have h := slice_both w A n c K4 E (by omega) (by omega)
      rw [h, show E - K4 = N by omega]
    have s4 : ∀ w, (Instr.slice 23 (.slice A n c) (some (.int .i64 k)) (some (.int .i64 K4)) none).run Try.prog w = .ok (.slice (cutAddr A k c) 4 (c - k)) w := fun w => by
      have h := slice_both w A n c k K4 (by omega) (by omega)
      rw [h, show K4 - k = 4 by omega]
    have hsub := HL.out.sub hc K4 E (by omega) (by omega)
    rw [show E = K4 + N by omega, drop_take', Nat.add_sub_cancel_left, show K4 = k + 4 by omega, ← hx, show k + 4 = K4 by omega] at hsub
    have HSUB := Lib.hid hsub
    have hsub2 := HL.out.sub hc k K4 (by omega) (by omega)
    rw [show K4 = k + 4 by omega, drop_take', Nat.add_sub_cancel_left, ← hy] at hsub2
    have HSUB2 := Lib.hid hsub2
    rw [← hx] at hG
    have HIFF : Hid (y = le4 (sumN x) ↔ sumN x = un4 (l.drop k)) := Lib.hid (by rw [hy]; exact le4_iff (by rw [List.length_drop]; have := HLN.out; omega) (sumN_lt x))
    have HXN : Hid (x.length = N) := Lib.hid (by rw [hx]; simp; have := HLN.out; omega)
    have hNl : N ≤ 262144 := by omega
    have HG := Lib.hid hG
    clear hG hE hK4' hsub hsub2 hx hy
    go_enter Try.func23, Try.ntmps23
    go_wp2_with fail
    refine (lGet_is w A n c l HL.out HGG.out).mono ?_
    rintro e2 w2 ⟨rfl, hw⟩
    rw [hw]
    clear hw
    go_wp2_with fail
    refine wp_region_held_drew (S := fun w' => Below w.heap.size w w') (by kernel_rfl) ?_ (fun hHeld => ?_)
    · exact (Below.refl _ _).drew
    refine wpAnyH_take (i := 0) (oi := ?oi0) (v := ?v0) ?hi0 (by kernel_rfl) (by kernel_rfl) (by kernel_rfl) ?hQ0 (Or.inl ⟨?hw0, ?hy0⟩) (by assumption) ?rest0
    case hi0 => (first | (simp only [List.getElem?_toArray, List.getElem?_cons_zero, List.getElem?_cons_succ]; rfl) | rfl)
    case hQ0 => exact fun _ _ _ h => h
    case hw0 => rfl
    case hy0 => ((intro w hSw; go_simp); first | done | with_reducible rfl)
    try simp only [Act.put, List.setIfInBounds_toArray, List.set_cons_zero, List.set_cons_succ]
    refine wpAnyH_take (i := 1) (oi := ?oi1) (v := ?v1) ?hi1 (by kernel_rfl) (by kernel_rfl) (by kernel_rfl) ?hQ1 (Or.inl ⟨?hw1, ?hy1⟩) (by assumption) ?rest1
    case hi1 => (first | (simp only [List.getElem?_toArray, List.getElem?_cons_zero, List.getElem?_cons_succ]; rfl) | rfl)
    case hQ1 => exact fun _ _ _ h => h
    case hw1 => rfl
    case hy1 => ((intro w hSw; go_simp); first | done | with_reducible rfl)
    try simp only [Act.put, List.setIfInBounds_toArray, List.set_cons_zero, List.set_cons_succ]
    refine wpAnyH_take (i := 2) (oi := ?oi2) (v := ?v2) ?hi2 (by kernel_rfl) (by kernel_rfl) (by kernel_rfl) ?hQ2 (Or.inl ⟨?hw2, ?hy2⟩) (by assumption) ?rest2
    case hi2 => (first | (simp only [List.getElem?_toArray, List.getElem?_cons_zero, List.getElem?_cons_succ]; rfl) | rfl)
    case hQ2 => exact fun _ _ _ h => h
    case hw2 => rfl
    case hy2 => ((intro w hSw; go_simp); first | done | with_reducible rfl)
    try simp only [Act.put, List.setIfInBounds_toArray, List.set_cons_zero, List.set_cons_succ]
    refine wpAnyH_take (i := 3) (oi := ?oi3) (v := ?v3) ?hi3 (by kernel_rfl) (by kernel_rfl) (by kernel_rfl) ?hQ3 (Or.inl ⟨?hw3, ?hy3⟩) (by assumption) ?rest3
    case hi3 => (first | (simp only [List.getElem?_toArray, List.getElem?_cons_zero, List.getElem?_cons_succ]; rfl) | rfl)
    case hQ3 => exact fun _ _ _ h => h
    case hw3 => rfl
    case hy3 => ((intro w hSw; go_simp); first | done | with_reducible rfl)
    try simp only [Act.put, List.setIfInBounds_toArray, List.set_cons_zero, List.set_cons_succ]
    refine wpAnyH_take (i := 4) (oi := ?oi4) (v := ?v4) ?hi4 (by kernel_rfl) (by kernel_rfl) (by kernel_rfl) ?hQ4 (Or.inl ⟨?hw4, ?hy4⟩) (by assumption) ?rest4
    case hi4 => (first | (simp only [List.getElem?_toArray, List.getElem?_cons_zero, List.getElem?_cons_succ]; rfl) | rfl)
    case hQ4 => exact fun _ _ _ h => h
    case hw4 => rfl
    case hy4 => ((intro w hSw; go_simp); first | done | with_reducible rfl)
    try simp only [Act.put, List.setIfInBounds_toArray, List.set_cons_zero, List.set_cons_succ]
    refine wpAnyH_ready (rs := [5]) (by kernel_rfl) (by simp) ?_
    refine AllReadyH.cons (o := ?o1) ?hc1 ?st1 AllReadyH.nil
    case hc1 => (simp only [List.getElem?_toArray, List.getElem?_cons_zero, List.getElem?_cons_succ]; rfl)
    intro K hK
    go_simp
    refine (fSumBytes_any _ _ _ _ x (HSUB.out.below hHeld)).mono ?_
    rintro e w5 ⟨S, rfl, hS, hSB, hb⟩
    have H5 := Lib.hid (below_then hHeld hb (Below.size hHeld))
    have SB := Lib.hid hSB
    clear hb hS hSB
    go_wp2_with fail
    refine hK.out _ _ H5.out (fun _ => ?_)
    clear hK K
    refine heldMore (S' := fun w' => w' = w5) (fun w h => h ▸ H5.out) _ _ _ _ ?_
    have hHeld2 : (fun w' => w' = w5) w5 := rfl
    try simp only [Act.put, List.setIfInBounds_toArray, List.set_cons_zero, List.set_cons_succ]
    refine wpAnyH_ready (rs := [6]) (by kernel_rfl) (by simp) ?_
    refine AllReadyH.cons (o := ?o2) ?hc2 ?st2 AllReadyH.nil
    case hc2 => (simp only [List.getElem?_toArray, List.getElem?_cons_zero, List.getElem?_cons_succ]; rfl)
    intro K hK
    go_simp
    refine (equal_any _ _ _ _ _ _ _ y (le4 (sumN x)) (HSUB2.out.below H5.out) SB.out).mono ?_
    rintro e w6 ⟨rfl, hw⟩
    rw [hw]
    clear hw w6
    go_wp2_with fail
    refine hK.out _ _ rfl (fun _ => ?_)
    clear hK K
    obtain ⟨t, ht⟩ : ∃ t, t = decide (y = le4 (sumN x)) := ⟨_, rfl⟩
    rw [← ht]
    have HT := Lib.hid ht
    clear ht
    try simp only [Act.put, List.setIfInBounds_toArray, List.set_cons_zero, List.set_cons_succ]
    refine wpAnyH_take (i := 7) (oi := ?oib7) (v := ?vb7) ?hib7 (by kernel_rfl) (by kernel_rfl) (by kernel_rfl) ?hQb7 (Or.inl ⟨?hwb7, ?hyb7⟩) (by assumption) ?restb7
    case hib7 => (first | (simp only [List.getElem?_toArray, List.getElem?_cons_zero, List.getElem?_cons_succ]; rfl) | rfl)
    case hQb7 => exact fun _ _ _ h => h
    case hwb7 => rfl
    case hyb7 => ((intro w hSw; go_simp); first | done | with_reducible rfl)
    try simp only [Act.put, List.setIfInBounds_toArray, List.set_cons_zero, List.set_cons_succ]
    refine wpAnyH_done (by kernel_rfl) ?_ _
    by_cases hsum : sumN x = un4 (l.drop k)
    · have htt : t = true := by rw [HT.out]; exact decide_eq_true (HIFF.out.2 hsum)
      rw [htt]
      have hG := HG.out
      rw [if_neg (by simpa using hsum)] at hG
      have HG2 := Lib.hid hG
      clear hG htt hsum
      go_wp2_with fail
      refine (clone_any w5 _ _ _ x (HSUB.out.below H5.out) (by omega)).mono ?_
      rintro e w7 ⟨v, rfl, hO, hb⟩
      have B7 := Lib.hid (below_then H5.out hb H5.out.size)
      have O7 := Lib.hid (Go.Joins.ownsRow_le hO H5.out.size)
      clear hO hb
      go_wp2
      go_ret3
      exact gfok HG2.out B7.out (by rw [HXN.out]; exact O7.out)
    · have htt : t = false := by rw [HT.out]; exact decide_eq_false (fun h => hsum (HIFF.out.1 h))
      rw [htt]
      have hG := HG.out
      rw [if_pos (by simpa using hsum)] at hG
      have HG2 := Lib.hid hG
      clear hG htt hsum
      go_wp2
      go_ret3
      exact gferr HG2.out H5.out
  · rw [if_pos he] at hG
    have HG := Lib.hid hG
    clear hG hg
    have d1 : (e != 0) = true := by simpa using he
    go_enter Try.func23, Try.ntmps23
    go_wp2_with fail
    refine (lGet_is w A n c l HL.out HGG.out).mono ?_
    rintro e2 w2 ⟨rfl, hw⟩
    rw [hw]
    clear hw
    go_wp2
    go_ret3
    exact gferr HG.out (Below.refl _ _)
end Go.Proofs.Ytdmhaaplgkilpaa
