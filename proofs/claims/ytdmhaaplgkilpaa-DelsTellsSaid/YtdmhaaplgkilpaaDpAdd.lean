/- The landed dels: Add. -/
import Derived.Test.YtdmhaaplgkilpaaDpHas
import Derived.Deep.RegionHeld3
namespace Go.Proofs.Ytdmhaaplgkilpaa
open Go.RowKit Go.Maps Go.WideMaps
set_option linter.unusedSimpArgs false

/-- One bit more. -/
def setB (l : List UInt8) (I : Nat) : List UInt8 := l.set (I / 8) (UInt8.ofNat ((l.getD (I / 8) 0).toNat ||| 2 ^ (I % 8)))
theorem or_lt (x : UInt8) (k : Nat) (hk : k < 8) : x.toNat ||| 2 ^ k < 256 := by
  have hx := x.toNat_lt
  exact Nat.or_lt_two_pow (n := 8) (by omega) (Nat.pow_lt_pow_right (by omega) hk)
theorem setB_bit {l : List UInt8} (hl : l.length = 8) {I : Nat} (hI : I < 64) (k : Nat) : bitOf (setB l I) k = (bitOf l k || decide (k = I)) := by
  unfold bitOf setB
  rw [List.getD_eq_getElem?_getD, List.getElem?_set]
  by_cases he : I / 8 = k / 8
  · rw [if_pos he, if_pos (by omega), Option.getD_some, UInt8.toNat_ofNat_of_lt' (by have := or_lt (l.getD (I / 8) 0) (I % 8) (by omega); simpa using this), Nat.testBit_or, he, Nat.testBit_two_pow]
    congr 1
    rw [decide_eq_decide]
    omega
  · rw [if_neg he, ← List.getD_eq_getElem?_getD, decide_eq_false (fun e : k = I => he (by rw [e])), Bool.or_false]

set_option maxHeartbeats 8000000 in
set_option maxRecDepth 100000 in
theorem dpAdd_yes {w : World} {b n : Nat} {l : List UInt8} (h : IsB w b n l) (I : Nat) (hI : I < n) (hf : bitOf l I = false) :
    Calls Try.prog 16 #[.pointer (some ⟨b, 0, none⟩), .int .i64 I] w fun e w' => e = .returned (.bool true) ∧ IsB w' b n (setB l I) ∧ Kept (fun i => i = b) w w' := by
  have HH := Lib.hid h
  have hn := h.few
  have hi : fits64 (I : Int) := by unfold fits64; omega
  have ht : decide (0 ≤ (I : Int) ∧ (I : Int) < (n : Int)) = true := decide_eq_true (by omega)
  have hh : dHas ⟨n, bitOf l⟩ I = false := by unfold dHas; simp only; rw [Int.toNat_natCast, hf, Bool.and_false]
  have HT : Hid (Calls Try.prog 31 #[.pointer (some ⟨b, 0, none⟩), .int .i64 I] w fun e w' => e = .returned (.bool true) ∧ w' = w) := Lib.hid (by rw [← ht]; exact dpThere_any HH.out I)
  have HS : Hid (Calls Try.prog 18 #[.pointer (some ⟨b, 0, none⟩), .int .i64 I] w fun e w' => e = .returned (.bool false) ∧ ∃ q, w' = w.drewN q) := Lib.hid (by rw [← hh]; exact dpHas_any HH.out I hi)
  clear h ht hh hi hf
  go_enter Try.func16, Try.ntmps16
  go_wp2_with fail
  refine HT.out.mono ?_
  rintro e w1 ⟨rfl, rfl⟩
  go_wp2_with fail
  refine HS.out.mono ?_
  rintro e w2 ⟨rfl, q, hw2⟩
  have HH2 : Hid (IsB w2.drew b n l) := Lib.hid (by rw [hw2]; exact (HH.out.drewN q).drewN 1)
  have HK2 : Hid (Kept (fun i => i = b) w1 w2.drew) := Lib.hid (by rw [hw2]; exact ((Kept.refl _ w1).drewN q).drew)
  clear hw2 HT HS HH
  go_wp2_with fail
  refine wp_region_held_drew (S := fun _ => True) (by kernel_rfl) trivial (fun hHeld => ?_)
  obtain ⟨u, hu⟩ : ∃ u, u = w2.drew := ⟨_, rfl⟩
  rw [← hu] at HH2 HK2 ⊢
  clear hu
  have hc := HH2.out.cb (I / 8) (by omega)
  have hz := HH2.out.blk.frozen (1 + I / 8)
  have hx8 := (l.getD (I / 8) 0).toNat_lt
  have hor := u8_or_nat (l.getD (I / 8) 0).toNat (2 ^ (I % 8)) (by omega) (by have : 2 ^ (I % 8) ≤ 2 ^ 7 := Nat.pow_le_pow_right (by omega) (by omega); omega)
  have hlt := or_lt (l.getD (I / 8) 0) (I % 8) (by omega)
  have HB : Hid (Calls Try.prog 32 #[.int .i64 I] u fun e w' => e = .returned (.int .u8 ((2 ^ (I % 8) : Nat) : Int)) ∧ w' = u) := Lib.hid (dpBit_any u I (by omega))
  have HFIN : Hid (IsB (u.setCell ⟨b, 1 + I / 8, none⟩ (.int .u8 (((l.getD (I / 8) 0).toNat ||| 2 ^ (I % 8) : Nat) : Int))) b n (setB l I) ∧ Kept (fun i => i = b) w1 (u.setCell ⟨b, 1 + I / 8, none⟩ (.int .u8 (((l.getD (I / 8) 0).toNat ||| 2 ^ (I % 8) : Nat) : Int)))) := Lib.hid (by
    refine ⟨⟨?_, by unfold setB; rw [List.length_set]; exact HH2.out.len, HH2.out.few⟩, HK2.out.setCell (.inl rfl) _⟩
    have h1 := HH2.out.blk.set_ (1 + I / 8) (.int .u8 (((l.getD (I / 8) 0).toNat ||| 2 ^ (I % 8) : Nat) : Int))
    refine (congrArg (fun z => Blk _ b 53 z) ?_).mp h1
    unfold setB
    rw [List.map_set, byteV, UInt8.toNat_ofNat_of_lt' (by simpa using hlt), Nat.add_comm 1 (I / 8)]
    simp)
  obtain ⟨P, hP⟩ : ∃ P, P = 2 ^ (I % 8) := ⟨_, rfl⟩
  obtain ⟨x, hx⟩ : ∃ x, x = (l.getD (I / 8) 0).toNat := ⟨_, rfl⟩
  rw [← hP, ← hx] at hor HFIN hlt
  rw [← hx] at hc hx8
  rw [← hP] at HB
  obtain ⟨y, hy⟩ : ∃ y, y = x ||| P := ⟨_, rfl⟩
  rw [← hy] at hor HFIN hlt
  have hwq : IntKind.i64.wrap ((I : Int) / 8) = ((I / 8 : Nat) : Int) := IntWalk.i64_in _ (by omega)
  obtain ⟨J, hJ⟩ : ∃ J, J = I / 8 := ⟨_, rfl⟩
  rw [← hJ] at hwq hc hz HFIN
  have hJ0 : (0 : Int) ≤ (J : Int) := by omega
  have hJ8 : (J : Int) < 8 := by omega
  clear hP hx hy hJ
  refine wpAnyH_take (i := 0) (oi := ?oia10) (v := ?va10) ?hia10 (by kernel_rfl) (by kernel_rfl) (by kernel_rfl) ?hQa10 (Or.inl ⟨?hwa10, ?hya10⟩) (by assumption) ?resta10
  case hia10 => (first | (simp only [List.getElem?_toArray, List.getElem?_cons_zero, List.getElem?_cons_succ]; rfl) | rfl)
  case hQa10 => exact fun _ _ _ h => h
  case hwa10 => rfl
  case hya10 => ((intro w hSw; go_simp); first | done | with_reducible rfl)
  try simp only [Act.put, List.setIfInBounds_toArray, List.set_cons_zero, List.set_cons_succ]
  refine wpAnyH_take (i := 1) (oi := ?oia21) (v := ?va21) ?hia21 (by kernel_rfl) (by kernel_rfl) (by kernel_rfl) ?hQa21 (Or.inl ⟨?hwa21, ?hya21⟩) (by assumption) ?resta21
  case hia21 => (first | (simp only [List.getElem?_toArray, List.getElem?_cons_zero, List.getElem?_cons_succ]; rfl) | rfl)
  case hQa21 => exact fun _ _ _ h => h
  case hwa21 => rfl
  case hya21 => ((intro w hSw; go_simp); first | done | with_reducible rfl)
  try simp only [Act.put, List.setIfInBounds_toArray, List.set_cons_zero, List.set_cons_succ]
  refine wpAnyH_take (i := 7) (oi := ?oia37) (v := ?va37) ?hia37 (by kernel_rfl) (by kernel_rfl) (by kernel_rfl) ?hQa37 (Or.inl ⟨?hwa37, ?hya37⟩) (by assumption) ?resta37
  case hia37 => (first | (simp only [List.getElem?_toArray, List.getElem?_cons_zero, List.getElem?_cons_succ]; rfl) | rfl)
  case hQa37 => exact fun _ _ _ h => h
  case hwa37 => rfl
  case hya37 => ((intro w hSw; go_simp); first | done | with_reducible rfl)
  try simp only [Act.put, List.setIfInBounds_toArray, List.set_cons_zero, List.set_cons_succ]
  refine wpAnyH_take (i := 2) (oi := ?oia42) (v := ?va42) ?hia42 (by kernel_rfl) (by kernel_rfl) (by kernel_rfl) ?hQa42 (Or.inl ⟨?hwa42, ?hya42⟩) (by assumption) ?resta42
  case hia42 => (first | (simp only [List.getElem?_toArray, List.getElem?_cons_zero, List.getElem?_cons_succ]; rfl) | rfl)
  case hQa42 => exact fun _ _ _ h => h
  case hwa42 => rfl
  case hya42 => ((intro w hSw; go_simp); first | done | with_reducible rfl)
  try simp only [Act.put, List.setIfInBounds_toArray, List.set_cons_zero, List.set_cons_succ]
  refine wpAnyH_take (i := 3) (oi := ?oia53) (v := ?va53) ?hia53 (by kernel_rfl) (by kernel_rfl) (by kernel_rfl) ?hQa53 (Or.inl ⟨?hwa53, ?hya53⟩) (by assumption) ?resta53
  case hia53 => (first | (simp only [List.getElem?_toArray, List.getElem?_cons_zero, List.getElem?_cons_succ]; rfl) | rfl)
  case hQa53 => exact fun _ _ _ h => h
  case hwa53 => rfl
  case hya53 => ((intro w hSw; go_simp); first | done | with_reducible rfl)
  try simp only [Act.put, List.setIfInBounds_toArray, List.set_cons_zero, List.set_cons_succ]
  refine wpAnyH_take (i := 10) (oi := ?oia610) (v := ?va610) ?hia610 (by kernel_rfl) (by kernel_rfl) (by kernel_rfl) ?hQa610 (Or.inl ⟨?hwa610, ?hya610⟩) (by assumption) ?resta610
  case hia610 => (first | (simp only [List.getElem?_toArray, List.getElem?_cons_zero, List.getElem?_cons_succ]; rfl) | rfl)
  case hQa610 => exact fun _ _ _ h => h
  case hwa610 => rfl
  case hya610 => ((intro w hSw; go_simp); first | done | with_reducible rfl)
  try simp only [Act.put, List.setIfInBounds_toArray, List.set_cons_zero, List.set_cons_succ]
  refine wpAnyH_take (i := 4) (oi := ?oia74) (v := ?va74) ?hia74 (by kernel_rfl) (by kernel_rfl) (by kernel_rfl) ?hQa74 (Or.inl ⟨?hwa74, ?hya74⟩) (by assumption) ?resta74
  case hia74 => (first | (simp only [List.getElem?_toArray, List.getElem?_cons_zero, List.getElem?_cons_succ]; rfl) | rfl)
  case hQa74 => exact fun _ _ _ h => h
  case hwa74 => rfl
  case hya74 => ((intro w hSw; go_simp); first | done | with_reducible rfl)
  try simp only [Act.put, List.setIfInBounds_toArray, List.set_cons_zero, List.set_cons_succ]
  refine wpAnyH_take (i := 11) (oi := ?oia811) (v := ?va811) ?hia811 (by kernel_rfl) (by kernel_rfl) (by kernel_rfl) ?hQa811 (Or.inl ⟨?hwa811, ?hya811⟩) (by assumption) ?resta811
  case hia811 => (first | (simp only [List.getElem?_toArray, List.getElem?_cons_zero, List.getElem?_cons_succ]; rfl) | rfl)
  case hQa811 => exact fun _ _ _ h => h
  case hwa811 => rfl
  case hya811 => ((intro w hSw; go_simp); first | done | with_reducible rfl)
  try simp only [Act.put, List.setIfInBounds_toArray, List.set_cons_zero, List.set_cons_succ]
  refine wpAnyH_take (i := 5) (oi := ?oia95) (v := ?va95) ?hia95 (by kernel_rfl) (by kernel_rfl) (by kernel_rfl) ?hQa95 (Or.inl ⟨?hwa95, ?hya95⟩) (by assumption) ?resta95
  case hia95 => (first | (simp only [List.getElem?_toArray, List.getElem?_cons_zero, List.getElem?_cons_succ]; rfl) | rfl)
  case hQa95 => exact fun _ _ _ h => h
  case hwa95 => rfl
  case hya95 => ((intro w hSw; go_simp); first | done | with_reducible rfl)
  try simp only [Act.put, List.setIfInBounds_toArray, List.set_cons_zero, List.set_cons_succ]
  refine wpAnyH_ready (rs := [6, 8]) (by kernel_rfl) (by simp) ?_
  refine AllReadyH.cons (o := ?oa10) ?ha10 ?sa10 (AllReadyH.cons (o := ?oa11) ?ha11 ?sa11 AllReadyH.nil)
  case ha10 => (simp only [List.getElem?_toArray, List.getElem?_cons_zero, List.getElem?_cons_succ]; rfl)
  case ha11 => (simp only [List.getElem?_toArray, List.getElem?_cons_zero, List.getElem?_cons_succ]; rfl)
  case sa10 =>
    intro K hK
    go_simp
    refine hK.out _ _ trivial (fun ha12 => ?_)
    clear hK K
    try simp only [Act.put, List.setIfInBounds_toArray, List.set_cons_zero, List.set_cons_succ]
    refine wpAnyH_ready (rs := [8]) (by kernel_rfl) (by simp) ?_
    refine AllReadyH.cons (o := ?oa13) ?ha13 ?sa13 AllReadyH.nil
    case ha13 => (simp only [List.getElem?_toArray, List.getElem?_cons_zero, List.getElem?_cons_succ]; rfl)
    case sa13 =>
      intro K hK
      go_simp
      refine HB.out.mono ?_
      rintro e w1 ⟨rfl, rfl⟩
      go_wp2_with fail
      refine hK.out _ _ trivial (fun ha14 => ?_)
      clear hK K
      try simp only [Act.put, List.setIfInBounds_toArray, List.set_cons_zero, List.set_cons_succ]
      refine wpAnyH_take (i := 9) (oi := ?oia159) (v := ?va159) ?hia159 (by kernel_rfl) (by kernel_rfl) (by kernel_rfl) ?hQa159 (Or.inl ⟨?hwa159, ?hya159⟩) (by assumption) ?resta159
      case hia159 => (first | (simp only [List.getElem?_toArray, List.getElem?_cons_zero, List.getElem?_cons_succ]; rfl) | rfl)
      case hQa159 => exact fun _ _ _ h => h
      case hwa159 => rfl
      case hya159 => ((intro w hSw; go_simp); first | done | with_reducible rfl)
      try simp only [Act.put, List.setIfInBounds_toArray, List.set_cons_zero, List.set_cons_succ]
      refine wpAnyH_take (i := 12) (oi := ?oia1612) (v := ?va1612) ?hia1612 (by kernel_rfl) (by kernel_rfl) (by kernel_rfl) ?hQa1612 (Or.inl ⟨?hwa1612, ?hya1612⟩) (by assumption) ?resta1612
      case hia1612 => (first | (simp only [List.getElem?_toArray, List.getElem?_cons_zero, List.getElem?_cons_succ]; rfl) | rfl)
      case hQa1612 => exact fun _ _ _ h => h
      case hwa1612 => rfl
      case hya1612 => ((intro w hSw; go_simp); first | done | with_reducible rfl)
      try simp only [Act.put, List.setIfInBounds_toArray, List.set_cons_zero, List.set_cons_succ]
      refine wpAnyH_ready (rs := [13]) (by kernel_rfl) (by simp) ?_
      refine AllReadyH.cons (o := ?oa17) ?ha17 ?sa17 AllReadyH.nil
      case ha17 => (simp only [List.getElem?_toArray, List.getElem?_cons_zero, List.getElem?_cons_succ]; rfl)
      case sa17 =>
        intro K hK
        go_simp
        refine hK.out _ _ trivial (fun ha18 => ?_)
        clear hK K
        try simp only [Act.put, List.setIfInBounds_toArray, List.set_cons_zero, List.set_cons_succ]
        refine wpAnyH_done (by kernel_rfl) ?_ _
        go_wp2
        go_ret
        exact ⟨rfl, HFIN.out⟩
  case sa11 =>
    intro K hK
    go_simp
    refine HB.out.mono ?_
    rintro e w1 ⟨rfl, rfl⟩
    go_wp2_with fail
    refine hK.out _ _ trivial (fun ha19 => ?_)
    clear hK K
    try simp only [Act.put, List.setIfInBounds_toArray, List.set_cons_zero, List.set_cons_succ]
    refine wpAnyH_ready (rs := [6]) (by kernel_rfl) (by simp) ?_
    refine AllReadyH.cons (o := ?oa20) ?ha20 ?sa20 AllReadyH.nil
    case ha20 => (simp only [List.getElem?_toArray, List.getElem?_cons_zero, List.getElem?_cons_succ]; rfl)
    case sa20 =>
      intro K hK
      go_simp
      refine hK.out _ _ trivial (fun ha21 => ?_)
      clear hK K
      try simp only [Act.put, List.setIfInBounds_toArray, List.set_cons_zero, List.set_cons_succ]
      refine wpAnyH_take (i := 9) (oi := ?oia229) (v := ?va229) ?hia229 (by kernel_rfl) (by kernel_rfl) (by kernel_rfl) ?hQa229 (Or.inl ⟨?hwa229, ?hya229⟩) (by assumption) ?resta229
      case hia229 => (first | (simp only [List.getElem?_toArray, List.getElem?_cons_zero, List.getElem?_cons_succ]; rfl) | rfl)
      case hQa229 => exact fun _ _ _ h => h
      case hwa229 => rfl
      case hya229 => ((intro w hSw; go_simp); first | done | with_reducible rfl)
      try simp only [Act.put, List.setIfInBounds_toArray, List.set_cons_zero, List.set_cons_succ]
      refine wpAnyH_take (i := 12) (oi := ?oia2312) (v := ?va2312) ?hia2312 (by kernel_rfl) (by kernel_rfl) (by kernel_rfl) ?hQa2312 (Or.inl ⟨?hwa2312, ?hya2312⟩) (by assumption) ?resta2312
      case hia2312 => (first | (simp only [List.getElem?_toArray, List.getElem?_cons_zero, List.getElem?_cons_succ]; rfl) | rfl)
      case hQa2312 => exact fun _ _ _ h => h
      case hwa2312 => rfl
      case hya2312 => ((intro w hSw; go_simp); first | done | with_reducible rfl)
      try simp only [Act.put, List.setIfInBounds_toArray, List.set_cons_zero, List.set_cons_succ]
      refine wpAnyH_ready (rs := [13]) (by kernel_rfl) (by simp) ?_
      refine AllReadyH.cons (o := ?oa24) ?ha24 ?sa24 AllReadyH.nil
      case ha24 => (simp only [List.getElem?_toArray, List.getElem?_cons_zero, List.getElem?_cons_succ]; rfl)
      case sa24 =>
        intro K hK
        go_simp
        refine hK.out _ _ trivial (fun ha25 => ?_)
        clear hK K
        try simp only [Act.put, List.setIfInBounds_toArray, List.set_cons_zero, List.set_cons_succ]
        refine wpAnyH_done (by kernel_rfl) ?_ _
        go_wp2
        go_ret
        exact ⟨rfl, HFIN.out⟩

/-- What Add leaves of the bytes. -/
def addB (n : Nat) (l : List UInt8) (i : Int) : List UInt8 := if dCan ⟨n, bitOf l⟩ i = true then setB l i.toNat else l
set_option maxHeartbeats 8000000 in
set_option maxRecDepth 100000 in
theorem dpAdd_any {w : World} {b n : Nat} {l : List UInt8} (h : IsB w b n l) (i : Int) (hi : fits64 i) :
    Calls Try.prog 16 #[.pointer (some ⟨b, 0, none⟩), .int .i64 i] w fun e w' => e = .returned (.bool (dCan ⟨n, bitOf l⟩ i)) ∧ IsB w' b n (addB n l i) ∧ Kept (fun i => i = b) w w' := by
  have HH := Lib.hid h
  cases hc : dCan ⟨n, bitOf l⟩ i with
  | true =>
    obtain ⟨I, rfl, hI, hf⟩ := can_iff hc
    have := dpAdd_yes h I hI hf
    unfold addB
    rw [if_pos hc, Int.toNat_natCast]
    exact this
  | false =>
    unfold addB
    rw [if_neg (by rw [hc]; decide)]
    obtain ⟨t, ht⟩ : ∃ t, t = decide (0 ≤ i ∧ i < (n : Int)) := ⟨_, rfl⟩
    have HT : Hid (Calls Try.prog 31 #[.pointer (some ⟨b, 0, none⟩), .int .i64 i] w fun e w' => e = .returned (.bool t) ∧ w' = w) := Lib.hid (by rw [ht]; exact dpThere_any HH.out i)
    cases t with
    | false =>
      clear h hc ht
      go_enter Try.func16, Try.ntmps16
      go_wp2_with fail
      refine HT.out.mono ?_
      rintro e w1 ⟨rfl, rfl⟩
      go_wp2
      go_ret
      exact ⟨rfl, HH.out, Kept.refl _ _⟩
    | true =>
      have hh : dHas ⟨n, bitOf l⟩ i = true := by
        unfold dCan at hc
        unfold dHas
        simp only at hc ⊢
        rw [← ht] at hc ⊢
        simpa using hc
      have HS : Hid (Calls Try.prog 18 #[.pointer (some ⟨b, 0, none⟩), .int .i64 i] w fun e w' => e = .returned (.bool true) ∧ ∃ q, w' = w.drewN q) := Lib.hid (by rw [← hh]; exact dpHas_any HH.out i hi)
      clear h hc ht hh
      go_enter Try.func16, Try.ntmps16
      go_wp2_with fail
      refine HT.out.mono ?_
      rintro e w1 ⟨rfl, rfl⟩
      go_wp2_with fail
      refine HS.out.mono ?_
      rintro e w2 ⟨rfl, q, rfl⟩
      go_wp2
      go_ret
      exact ⟨rfl, HH.out.drewN q, (Kept.refl _ _).drewN q⟩
end Go.Proofs.Ytdmhaaplgkilpaa
