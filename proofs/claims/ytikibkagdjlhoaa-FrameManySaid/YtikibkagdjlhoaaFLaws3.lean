/- FrameBack, walked. -/
import Derived.Test.YtikibkagdjlhoaaFLaws2
import Derived.Test.YtikibkagdjlhoaaKSized
import Derived.Deep.RegionHeld3
namespace Go.Proofs.Ytikibkagdjlhoaa
open Go.RowKit Go.Maps Go.WideMaps Go.Shelf

/-- What the laws count. -/
def totF : List Nm → Nat
  | [] => 0
  | x :: r => 10 + x.length + totF r
theorem totF_app (L M : List Nm) : totF (L ++ M) = totF L + totF M := by
  induction L with
  | nil => simp [totF]
  | cons x r ih => simp only [List.cons_append, totF, ih]; omega
theorem totF_snoc (L : List Nm) (x : Nm) : totF (L ++ [x]) = totF L + 10 + x.length := by
  rw [totF_app]
  simp only [totF]
  omega
theorem totF_take (L : List Nm) (k : Nat) : totF (L.take k) ≤ totF L := by
  have h := totF_app (L.take k) (L.drop k)
  rw [List.take_append_drop] at h
  omega
theorem totF_mem {L : List Nm} {x : Nm} (h : x ∈ L) : x.length ≤ totF L := by
  induction L with
  | nil => cases h
  | cons y r ih =>
    simp only [totF]
    rcases List.mem_cons.1 h with h | h
    · subst h; omega
    · have := ih h; omega
theorem flat_len (L : List Nm) (h : ∀ x ∈ L, x.length < 2 ^ 64) : (L.flatMap putF).length ≤ 2 * totF L := by
  induction L with
  | nil => simp [totF]
  | cons x r ih =>
    have h1 := ih fun y hy => h y (List.mem_cons_of_mem _ hy)
    have h2 := putL_len x.length (h x (List.mem_cons_self ..))
    simp only [List.flatMap_cons, List.length_append, totF, putF_len]
    omega
theorem flat_snoc (L : List Nm) (x : Nm) : (L ++ [x]).flatMap putF = L.flatMap putF ++ putF x := by simp

set_option linter.unusedSimpArgs false in
set_option maxHeartbeats 8000000 in
set_option maxRecDepth 100000 in
theorem frameBack_any (w : World) (A : Option Addr) (n ca : Nat) (L : List Nm) (hL : RowsSz w A n L) (B : Option Addr) (m cb : Nat) (M : Nm) (hM : BytesSz w B m M) (D : Option Addr) (k d : Nat) (C : Nm) (hC : BytesSz w D k C) (hkd : k ≤ d) :
    Calls Try.prog 4 #[.slice A n ca, .slice B m cb, .slice D k d] w fun e w' => e = .returned (.bool true) ∧ Below w.heap.size w w' := by
  obtain ⟨i0, hi, hz0, hz1, hz2⟩ := info_parts byteInfo
  have HL := Lib.hid hL.1
  have HSZ := Lib.hid hL.2.1
  have n63 := hL.2.2
  have HLN := Lib.hid hL.1.len
  have HM := Lib.hid hM.1
  have m63 := hM.2
  have HC := Lib.hid hC.1
  have k63 := hC.2
  have hml : M.length = m := by have := hM.1.2.1.len; simpa using this
  have HML := Lib.hid hml
  have hcl : C.length = k := by have := hC.1.2.1.len; simpa using this
  have HCLN := Lib.hid hcl
  obtain ⟨y, j, f, hg⟩ : ∃ y j f, getF C = (y, j, f) := ⟨_, _, _, rfl⟩
  have HG := Lib.hid hg
  have hyl := getF_len C
  rw [hg] at hyl
  have hyl : y.length ≤ 262144 := hyl
  clear hL hM hC hml hcl hg
  go_enter Try.func4, Try.ntmps4
  go_wp2_with fail
  refine (frameHead_any w).mono ?_
  rintro e w1 ⟨rfl, hb⟩
  have B1 := Lib.hid hb
  clear hb
  obtain ⟨q, hq⟩ : ∃ q, q = m + k := ⟨_, rfl⟩
  go_wp2
  go_loop [8, 9] (fun s i => ∃ (t a : Nat), a ≤ n ∧ i = .int .i64 a ∧ s = .int .i64 t ∧ t = q + totF (L.take a) ∧ t ≤ 600000000000000) (fun _ i => n - (intOf i).toNat)
  case atStart => exact ⟨q, 0, by omega, rfl, by rw [hq, Int.natCast_add], by simp [totF], by omega⟩
  case round =>
    obtain ⟨t, a, ha, rfl, rfl, ht, ht6⟩ := hrel
    have HT := Lib.hid ht
    clear ht
    rcases Nat.lt_or_ge a n with hlt | hge
    · have hlt' : (a : Int) < (n : Int) := by omega
      have p0 : (0 : Int) ≤ (a : Int) := by omega
      by_cases hbig : 200000 < t
      · have hbz : ¬ (t : Int) ≤ 200000 := by omega
        have hbz2 : (200000 : Int) < (t : Int) := by omega
        go_wp2
        go_ret
        exact ⟨rfl, B1.out⟩
      have hbz : (t : Int) ≤ 200000 := by omega
      obtain ⟨x, hx⟩ : ∃ x, L[a]? = some x := ⟨L[a]'(by rw [HLN.out]; exact hlt), List.getElem?_eq_getElem _⟩
      have hx63 := HSZ.out x (List.mem_of_getElem? hx)
      obtain ⟨ad, X, cx, rfl, hcx, hxc, hxb⟩ := (HL.out.below B1.out).at_ a x hx
      have HX := Lib.hid hx
      have hw10 : IntKind.i64.wrap ((t : Int) + 10) = (t : Int) + 10 := IntWalk.i64_in _ (by omega)
      obtain ⟨t2, ht2⟩ : ∃ t2, t2 = t + 10 + x.length := ⟨_, rfl⟩
      have hwx : IntKind.i64.wrap ((t : Int) + 10 + (x.length : Int)) = (t2 : Int) := by rw [IntWalk.i64_in _ (by omega)]; omega
      have HT2 := Lib.hid ht2
      clear hxb hx ht2
      go_wp2
      go_round
      case rel =>
        exact ⟨t2, a + 1, by omega, by go_num, rfl, by rw [take_snoc2 HX.out, totF_snoc, HT2.out, HT.out]; omega, by have := HT2.out; omega⟩
      case measure => simp [intOf]; omega
    obtain rfl : a = n := by omega
    have hlz : ¬ ((a : Int) < (a : Int)) := by omega
    by_cases hbig : 200000 < t
    · have hbz2 : (200000 : Int) < (t : Int) := by omega
      go_wp2
      go_ret
      exact ⟨rfl, B1.out⟩
    have hbz2 : ¬ (200000 : Int) < (t : Int) := by omega
    have hta : L.take a = L := List.take_of_length_le (by rw [HLN.out]; exact Nat.le_refl _)
    have htot : totF L ≤ 200000 := by have := HT.out; rw [hta] at this; omega
    have hmq : m ≤ 200000 := by have := HT.out; omega
    have hkq : k ≤ 200000 := by have := HT.out; omega
    have hshort : ∀ x ∈ L, x.length ≤ 200000 := fun x hx => Nat.le_trans (totF_mem hx) htot
    have HS := Lib.hid hshort
    clear hta HT hq ht6 hshort m63 k63
    go_wp2
    go_loopw [10, 11] (fun v i wr => ∃ b : Nat, b ≤ a ∧ i = .int .i64 b ∧ Below w.heap.size w wr ∧ wr.ownsRow w.heap.size 5 1 v ((L.take b).flatMap putF).length (((L.take b).flatMap putF).map byteV)) (fun _ i _ => a - (intOf i).toNat)
    case atStart => exact ⟨0, by omega, rfl, B1.out, ⟨by simp, .inl ⟨rfl, rfl⟩⟩⟩
    case round =>
      clear B1
      obtain ⟨b, hb, rfl, hB, hO⟩ := hrel
      have HB := Lib.hid hB
      have HO := Lib.hid hO
      clear hB hO
      obtain ⟨T, hT⟩ : ∃ T, T = (L.take b).flatMap putF := ⟨_, rfl⟩
      obtain ⟨s, hs⟩ : ∃ s, s = T.length := ⟨_, rfl⟩
      have hsl : s ≤ 400000 := by
        have h1 := flat_len (L.take b) (fun x hx => by have := HS.out x (List.mem_of_mem_take hx); omega)
        have h2 := totF_take L b
        rw [hs, hT]
        omega
      rw [← hT, ← hs] at HO
      have HTT := Lib.hid hT
      have HSS := Lib.hid hs
      clear hT hs
      obtain ⟨Av, cv, hv⟩ := own_slice HO.out
      subst hv
      rcases Nat.lt_or_ge b a with hlt | hge
      · have hlt' : (b : Int) < (a : Int) := by omega
        have p0 : (0 : Int) ≤ (b : Int) := by omega
        obtain ⟨x, hx⟩ : ∃ x, L[b]? = some x := ⟨L[b]'(by rw [HLN.out]; exact hlt), List.getElem?_eq_getElem _⟩
        have hx63 := HS.out x (List.mem_of_getElem? hx)
        obtain ⟨ad, X, cx, rfl, hcx, hxc, hxb⟩ := (HL.out.below HB.out).at_ b x hx
        have HX := Lib.hid hx
        have HXB := Lib.hid hxb
        have hp10 := putL_len x.length (by omega)
        obtain ⟨F, hF⟩ : ∃ F, F = putF x := ⟨_, rfl⟩
        obtain ⟨fl, hfl⟩ : ∃ fl, fl = F.length := ⟨_, rfl⟩
        have hfb : fl ≤ 300000 := by rw [hfl, hF, putF_len]; omega
        have HF := Lib.hid hF
        have HFL := Lib.hid hfl
        clear hx hxb hF hfl hp10
        go_wp2_with fail
        refine (fPut_any wr X x.length cx x HXB.out (by omega)).mono ?_
        rintro e w2 ⟨v2, rfl, hO2, hB2⟩
        rw [← HF.out, ← HFL.out] at hO2
        obtain ⟨A2, c2, hv2⟩ := own_slice hO2
        subst hv2
        have HB2 := Lib.hid (below_then HB.out hB2 HB.out.size)
        have HS2 := Lib.hid (src_of_own hO2)
        have HO2 := Lib.hid (ownsRow_block HO.out fun g hg => hB2.block g (HO.out.lt g hg).2)
        clear hO2 hB2
        go_wp2_with (at_builtin; refine wpList_append_src _ rfl (.tmp 52) (.tmp 57) 22 rfl w.heap.size 5 i0 (.int .u8 0) 1 Try.underlying22 hi hz0 hz1 hz2 rfl _ _ _ rfl HO2.out A2 _ c2 _ rfl HS2.out (u8_one _) (by unfold maxLen; omega) (by omega) HB2.out.size ?_; intro v3 w3 hown hgrow _; have HO3 := Lib.hid hown; have HB3 := Lib.hid (HB2.out.grown hgrow HB2.out.size (fun g hg => (HO2.out.lt g hg).1)); clear hown hgrow)
        go_roundw
        case rel =>
          have e1 : (L.take (b + 1)).flatMap putF = T ++ F := by rw [take_snoc2 HX.out, flat_snoc, ← HTT.out, HF.out]
          refine ⟨b + 1, by omega, by go_num, HB3.out, ?_⟩
          rw [e1, List.length_append, List.map_append, ← HSS.out, ← HFL.out]
          exact HO3.out
        case measure => simp [intOf]; omega
      obtain rfl : b = a := by omega
      have hlz : ¬ ((b : Int) < (b : Int)) := by omega
      have htb : L.take b = L := List.take_of_length_le (by rw [HLN.out]; exact Nat.le_refl _)
      have hT2 := HTT.out
      rw [htb] at hT2
      have hSh : Short L := fun x hx => by have := HS.out x hx; omega
      have ha := allF_put L hSh
      rw [← hT2] at ha
      have HA := Lib.hid ha
      have hwp := wholeF_put L hSh M
      rw [← hT2, ← HSS.out] at hwp
      obtain ⟨W, at_, hw⟩ : ∃ W at_, wholeF (T ++ M) = (W, at_) := ⟨_, _, rfl⟩
      have hWl := wholeF_len (T ++ M)
      rw [hw, List.length_append, HML.out, ← HSS.out] at hWl
      rw [hw] at hwp
      obtain ⟨hat0, r, hWr0⟩ := hwp
      have hat : s ≤ at_ := hat0
      have hWr : W = L ++ r := hWr0
      have hWl2 : W.length ≤ s + m := hWl
      clear hat0 hWr0 hWl
      have HW := Lib.hid hw
      have hWn : b ≤ W.length := by rw [hWr, List.length_append, HLN.out]; omega
      have HWT : Hid (W.take b = L) := Lib.hid (by rw [hWr, List.take_append_of_le_length (by rw [HLN.out]; exact Nat.le_refl _)]; exact htb)
      have hLb : L.length = b := HLN.out
      clear htb hT2 hSh ha hw hWr
      obtain ⟨_, _, hv, hcv⟩ := own_cap HO.out
      cases hv
      go_wp2_with fail
      refine (fAll_any wr Av s cv T (BytesIn.own HO.out (by unfold maxLen; omega)) hcv (by omega)).mono ?_
      rintro e w2 ⟨v2, rfl, hR2, hB2⟩
      rw [HA.out] at hR2 ⊢
      obtain ⟨A2, c2, hv, hsee⟩ := see_of hR2 (by show L.length ≤ _; unfold maxLen; omega)
      subst hv
      have hsee2 : RowsSee w2 A2 L.length L := hsee
      rw [hLb] at hsee2
      have J2 : Hid (RowsSee w2 A2 b L) := Lib.hid hsee2
      have HB2 := Lib.hid (below_then HB.out hB2 HB.out.size)
      have HO2 := Lib.hid (ownsRow_block HO.out fun g hg => hB2.block g (HO.out.lt g hg).2)
      have d0 : ((0 : Int) != 0) = false := by simp
      clear hR2 hsee hsee2 hB2
      go_wp2_with fail
      refine (r4Same_any w2 A2 A b b c2 ca L L J2.out (HL.out.below HB2.out)).mono ?_
      rintro e w3 ⟨rfl, qd, hw⟩
      rw [decide_eq_true rfl]
      have HB3 : Hid (Below w.heap.size w w3) := Lib.hid (by rw [hw]; exact below_drewN HB2.out _)
      have HO3 : Hid (w3.ownsRow w.heap.size 5 1 (.slice Av s cv) s (T.map byteV)) := Lib.hid (by rw [hw]; exact HO2.out)
      clear hw HB2 HO2 J2 HB
      have HSRC := Lib.hid (src_of_own (own_alloc HO3.out (.cells #[] 5)))
      go_wp2_with (first
        | (at_builtin; refine wpList_append_src _ rfl (.tmp 73) (.tmp 74) 22 rfl w.heap.size 5 i0 (.int .u8 0) 1 Try.underlying22 hi hz0 hz1 hz2 rfl _ 0 [] rfl (World.ownsRow_made w3 #[] 0 HB3.out.size (Nat.zero_le _) rfl) Av s cv (T.map byteV) rfl HSRC.out (u8_one T) (by unfold maxLen; omega) (by omega) (by have := HB3.out.size; simp; omega) ?_; intro v4 w4 hown hgrow hloc; obtain ⟨A4, c4, hv⟩ := own_slice hown; subst hv; rw [Nat.zero_add, List.nil_append] at hown; have HO4 := Lib.hid hown; have HB4 := Lib.hid ((HB3.out.alloc HB3.out.size (.cells #[] 5)).grown hgrow (by have := HB3.out.size; simp; omega) (fun g e => by cases e; exact HB3.out.size)); have M4 := Lib.hid (HM.out.below HB4.out); clear hown hgrow hloc)
        | (at_builtin; refine wpList_append_src _ rfl (.tmp 75) (.tmp 76) 22 rfl w.heap.size 5 i0 (.int .u8 0) 1 Try.underlying22 hi hz0 hz1 hz2 rfl _ _ _ rfl HO4.out B m cb (M.map byteV) rfl M4.out.2.1 (u8_one M) (by unfold maxLen; omega) (by omega) HB4.out.size ?_; intro v5 w5 hown hgrow hloc; obtain ⟨A5, c5, hv, hc5⟩ := own_cap hown; subst hv; rw [← List.map_append] at hown; have HO5 := Lib.hid hown; have HB5 := Lib.hid (HB4.out.grown hgrow HB4.out.size (fun g hg => (HO4.out.lt g hg).1)); clear hown hgrow hloc))
      refine (fWhole_any w5 A5 (s + m) c5 (T ++ M) (BytesIn.own HO5.out (by unfold maxLen; omega)) hc5 (by omega)).mono ?_
      rintro e w6 ⟨v6, rfl, hR6, hB6⟩
      rw [HW.out] at hR6 ⊢
      obtain ⟨svs6, ho6, _⟩ := id hR6
      obtain ⟨A6, c6, hv, hc6⟩ := own_cap ho6
      subst hv
      have hsee : RowsSee w6 A6 W.length W := (RowsAt.see hR6 (by show W.length ≤ _; unfold maxLen; omega)).1
      have J6 : Hid (RowsSee w6 A6 b L) := Lib.hid (by have := hsee.upto b hWn; rw [HWT.out] at this; exact this)
      have HB6 := Lib.hid (below_then HB5.out hB6 HB5.out.size)
      have s1 : ∀ w, (Instr.slice 27 (.slice A6 W.length c6) none (some (.int .i64 b)) none).run Try.prog w = .ok (.slice A6 b c6) w := fun w => rows_to w A6 W.length c6 b (by have : W.length ≤ c6 := hc6; omega)
      have hbc6 : b ≤ c6 := by have : W.length ≤ c6 := hc6; omega
      have d1 : ¬ ((at_ : Int) < (s : Int)) := by omega
      have d2 : ¬ ((W.length : Int) < (b : Int)) := by omega
      clear hR6 hsee hB6 ho6 hc6 HB3 HO3 HSRC HO4 HB4 M4 HO5 HB5 HO
      go_wp2_with fail
      refine (r4Same_any w6 A6 A b b c6 ca L L J6.out (HL.out.below HB6.out)).mono ?_
      rintro e w7 ⟨rfl, qd, hw⟩
      rw [decide_eq_true rfl]
      have HB7 : Hid (Below w.heap.size w w7) := Lib.hid (by rw [hw]; exact below_drewN HB6.out _)
      clear hw HB6 J6 s1 d1 d2 d0
      go_wp2_with fail
      refine (fGet_any w7 D k d C (HC.out.below HB7.out) hkd (by omega)).mono ?_
      rintro e w8 ⟨v8, rfl, hO8, hB8⟩
      rw [HG.out] at hO8 ⊢
      have hO8' : w8.ownsRow w7.heap.size 5 1 v8 y.length (y.map byteV) := hO8
      obtain ⟨A8, c8, hv⟩ := own_slice hO8'
      subst hv
      have I8 := Lib.hid (BytesIn.own hO8' (by unfold maxLen; omega))
      have HB8 := Lib.hid (below_then HB7.out hB8 HB7.out.size)
      clear hO8 hO8' hB8
      by_cases hf : f = 0
      · subst hf
        have d0 : ((0 : Int) != 0) = false := by simp
        obtain ⟨g1, g2, g3, g4⟩ := getF_inv HG.out
        rw [HCLN.out] at g2
        have HG3 := Lib.hid g3.symm
        have hjz : (j : Int) ≤ (k : Int) := by omega
        have hjl : (C.take j).length = j := by rw [List.length_take, HCLN.out]; omega
        have HJL := Lib.hid hjl
        have s1 : ∀ w, (Instr.slice 22 (.slice D k d) none (some (.int .i64 j)) none).run Try.prog w = .ok (.slice D j d) w := fun w => slice_to w D k d j (by omega)
        have sc := str_later (c := d) ((HC.out.below HB8.out).upto j g2)
        have xx : (C.take j == C.take j) = true := by simp
        clear g3 hjl
        go_wp2_with fail
        refine wp_region_held_drew (S := fun w' => Below w8.heap.size w8 w') (by kernel_rfl) ?_ (fun hHeld => ?_)
        · exact (Below.refl _ _).drew
        refine wpAnyH_take (i := 0) (oi := ?oia0) (v := ?va0) ?hia0 (by kernel_rfl) (by kernel_rfl) (by kernel_rfl) ?hQa0 (Or.inl ⟨?hwa0, ?hya0⟩) (by assumption) ?resta0
        case hia0 => (first | (simp only [List.getElem?_toArray, List.getElem?_cons_zero, List.getElem?_cons_succ]; rfl) | rfl)
        case hQa0 => exact fun _ _ _ h => h
        case hwa0 => rfl
        case hya0 => ((intro w hSw; go_simp); first | done | with_reducible rfl)
        try simp only [Act.put, List.setIfInBounds_toArray, List.set_cons_zero, List.set_cons_succ]
        refine wpAnyH_take (i := 1) (oi := ?oia1) (v := ?va1) ?hia1 (by kernel_rfl) (by kernel_rfl) (by kernel_rfl) ?hQa1 (Or.inl ⟨?hwa1, ?hya1⟩) (by assumption) ?resta1
        case hia1 => (first | (simp only [List.getElem?_toArray, List.getElem?_cons_zero, List.getElem?_cons_succ]; rfl) | rfl)
        case hQa1 => exact fun _ _ _ h => h
        case hwa1 => rfl
        case hya1 => ((intro w hSw; go_simp); first | done | with_reducible rfl)
        try simp only [Act.put, List.setIfInBounds_toArray, List.set_cons_zero, List.set_cons_succ]
        refine wpAnyH_take (i := 2) (oi := ?oia2) (v := ?va2) ?hia2 (by kernel_rfl) (by kernel_rfl) (by kernel_rfl) ?hQa2 (Or.inl ⟨?hwa2, ?hya2⟩) (by assumption) ?resta2
        case hia2 => (first | (simp only [List.getElem?_toArray, List.getElem?_cons_zero, List.getElem?_cons_succ]; rfl) | rfl)
        case hQa2 => exact fun _ _ _ h => h
        case hwa2 => rfl
        case hya2 => ((intro w hSw; go_simp); first | done | with_reducible rfl)
        try simp only [Act.put, List.setIfInBounds_toArray, List.set_cons_zero, List.set_cons_succ]
        refine wpAnyH_take (i := 3) (oi := ?oia3) (v := ?va3) ?hia3 (by kernel_rfl) (by kernel_rfl) (by kernel_rfl) ?hQa3 (Or.inl ⟨?hwa3, ?hya3⟩) (by assumption) ?resta3
        case hia3 => (first | (simp only [List.getElem?_toArray, List.getElem?_cons_zero, List.getElem?_cons_succ]; rfl) | rfl)
        case hQa3 => exact fun _ _ _ h => h
        case hwa3 => rfl
        case hya3 => ((intro w hSw; go_simp); first | done | with_reducible rfl)
        try simp only [Act.put, List.setIfInBounds_toArray, List.set_cons_zero, List.set_cons_succ]
        refine wpAnyH_take (i := 4) (oi := ?oia4) (v := ?va4) ?hia4 (by kernel_rfl) (by kernel_rfl) (by kernel_rfl) ?hQa4 (Or.inl ⟨?hwa4, ?hya4⟩) (by assumption) ?resta4
        case hia4 => (first | (simp only [List.getElem?_toArray, List.getElem?_cons_zero, List.getElem?_cons_succ]; rfl) | rfl)
        case hQa4 => exact fun _ _ _ h => h
        case hwa4 => rfl
        case hya4 => ((intro w hSw; go_simp); first | done | with_reducible rfl)
        try simp only [Act.put, List.setIfInBounds_toArray, List.set_cons_zero, List.set_cons_succ]
        refine wpAnyH_take (i := 5) (oi := ?oia5) (v := ?va5) ?hia5 (by kernel_rfl) (by kernel_rfl) (by kernel_rfl) ?hQa5 (Or.inl ⟨?hwa5, ?hya5⟩) (by assumption) ?resta5
        case hia5 => (first | (simp only [List.getElem?_toArray, List.getElem?_cons_zero, List.getElem?_cons_succ]; rfl) | rfl)
        case hQa5 => exact fun _ _ _ h => h
        case hwa5 => rfl
        case hya5 => ((intro w hSw; go_simp); first | done | with_reducible rfl)
        try simp only [Act.put, List.setIfInBounds_toArray, List.set_cons_zero, List.set_cons_succ]
        refine wpAnyH_take (i := 6) (oi := ?oia6) (v := ?va6) ?hia6 (by kernel_rfl) (by kernel_rfl) (by kernel_rfl) ?hQa6 (Or.inl ⟨?hwa6, ?hya6⟩) (by assumption) ?resta6
        case hia6 => (first | (simp only [List.getElem?_toArray, List.getElem?_cons_zero, List.getElem?_cons_succ]; rfl) | rfl)
        case hQa6 => exact fun _ _ _ h => h
        case hwa6 => rfl
        case hya6 => ((intro w hSw; go_simp); first | done | with_reducible rfl)
        try simp only [Act.put, List.setIfInBounds_toArray, List.set_cons_zero, List.set_cons_succ]
        refine wpAnyH_take (i := 7) (oi := ?oia7) (v := ?va7) ?hia7 (by kernel_rfl) (by kernel_rfl) (by kernel_rfl) ?hQa7 (Or.inl ⟨?hwa7, ?hya7⟩) (by assumption) ?resta7
        case hia7 => (first | (simp only [List.getElem?_toArray, List.getElem?_cons_zero, List.getElem?_cons_succ]; rfl) | rfl)
        case hQa7 => exact fun _ _ _ h => h
        case hwa7 => rfl
        case hya7 => ((intro w hSw; go_simp); first | done | with_reducible rfl)
        try simp only [Act.put, List.setIfInBounds_toArray, List.set_cons_zero, List.set_cons_succ]
        refine wpAnyH_take (i := 8) (oi := ?oia8) (v := ?va8) ?hia8 (by kernel_rfl) (by kernel_rfl) (by kernel_rfl) ?hQa8 (Or.inl ⟨?hwa8, ?hya8⟩) (by assumption) ?resta8
        case hia8 => (first | (simp only [List.getElem?_toArray, List.getElem?_cons_zero, List.getElem?_cons_succ]; rfl) | rfl)
        case hQa8 => exact fun _ _ _ h => h
        case hwa8 => rfl
        case hya8 => ((intro w hSw; go_simp); first | done | with_reducible rfl)
        try simp only [Act.put, List.setIfInBounds_toArray, List.set_cons_zero, List.set_cons_succ]
        refine wpAnyH_take (i := 11) (oi := ?oia11) (v := ?va11) ?hia11 (by kernel_rfl) (by kernel_rfl) (by kernel_rfl) ?hQa11 (Or.inl ⟨?hwa11, ?hya11⟩) (by assumption) ?resta11
        case hia11 => (first | (simp only [List.getElem?_toArray, List.getElem?_cons_zero, List.getElem?_cons_succ]; rfl) | rfl)
        case hQa11 => exact fun _ _ _ h => h
        case hwa11 => rfl
        case hya11 => ((intro w hSw; go_simp); first | done | with_reducible rfl)
        try simp only [Act.put, List.setIfInBounds_toArray, List.set_cons_zero, List.set_cons_succ]
        refine wpAnyH_take (i := 12) (oi := ?oia12) (v := ?va12) ?hia12 (by kernel_rfl) (by kernel_rfl) (by kernel_rfl) ?hQa12 (Or.inl ⟨?hwa12, ?hya12⟩) (by assumption) ?resta12
        case hia12 => (first | (simp only [List.getElem?_toArray, List.getElem?_cons_zero, List.getElem?_cons_succ]; rfl) | rfl)
        case hQa12 => exact fun _ _ _ h => h
        case hwa12 => rfl
        case hya12 => ((intro w hSw; go_simp); first | done | with_reducible rfl)
        try simp only [Act.put, List.setIfInBounds_toArray, List.set_cons_zero, List.set_cons_succ]
        refine wpAnyH_take (i := 13) (oi := ?oia13) (v := ?va13) ?hia13 (by kernel_rfl) (by kernel_rfl) (by kernel_rfl) ?hQa13 (Or.inl ⟨?hwa13, ?hya13⟩) (by assumption) ?resta13
        case hia13 => (first | (simp only [List.getElem?_toArray, List.getElem?_cons_zero, List.getElem?_cons_succ]; rfl) | rfl)
        case hQa13 => exact fun _ _ _ h => h
        case hwa13 => rfl
        case hya13 => ((intro w hSw; go_simp); first | done | with_reducible rfl)
        try simp only [Act.put, List.setIfInBounds_toArray, List.set_cons_zero, List.set_cons_succ]
        refine wpAnyH_take (i := 14) (oi := ?oia14) (v := ?va14) ?hia14 (by kernel_rfl) (by kernel_rfl) (by kernel_rfl) ?hQa14 (Or.inl ⟨?hwa14, ?hya14⟩) (by assumption) ?resta14
        case hia14 => (first | (simp only [List.getElem?_toArray, List.getElem?_cons_zero, List.getElem?_cons_succ]; rfl) | rfl)
        case hQa14 => exact fun _ _ _ h => h
        case hwa14 => rfl
        case hya14 => ((intro w hSw; go_simp); first | done | with_reducible rfl)
        try simp only [Act.put, List.setIfInBounds_toArray, List.set_cons_zero, List.set_cons_succ]
        refine wpAnyH_ready (rs := [9]) (by kernel_rfl) (by simp) ?_
        refine AllReadyH.cons (o := ?o1) ?hc1 ?st1 AllReadyH.nil
        case hc1 => (simp only [List.getElem?_toArray, List.getElem?_cons_zero, List.getElem?_cons_succ]; rfl)
        intro K hK
        go_simp
        refine (fPut_any _ A8 y.length c8 y (I8.out.below hHeld) (by omega)).mono ?_
        rintro e w9 ⟨v9, rfl, hO, hB⟩
        rw [HG3.out, HJL.out] at hO
        obtain ⟨A9, c9, hv⟩ := own_slice hO
        subst hv
        have H9 := Lib.hid (below_then hHeld hB (Below.size hHeld))
        have s9 := str_later (c := c9) (BytesIn.own hO (by unfold maxLen; omega))
        clear hO hB
        go_wp2_with fail
        refine hK.out _ _ H9.out (fun _ => ?_)
        clear hK K
        refine heldMore (S' := fun w' => Below w9.heap.size w9 w' ∧ Below w8.heap.size w8 w') (fun w h => h.2) _ _ _ _ ?_
        have hHeld2 : (fun w' => Below w9.heap.size w9 w' ∧ Below w8.heap.size w8 w') _ := ⟨Below.refl _ _, H9.out⟩
        try simp only [Act.put, List.setIfInBounds_toArray, List.set_cons_zero, List.set_cons_succ]
        refine wpAnyH_take (i := 10) (oi := ?oib10) (v := ?vb10) ?hib10 (by kernel_rfl) (by kernel_rfl) (by kernel_rfl) ?hQb10 (Or.inl ⟨?hwb10, ?hyb10⟩) (by assumption) ?restb10
        case hib10 => (first | (simp only [List.getElem?_toArray, List.getElem?_cons_zero, List.getElem?_cons_succ]; rfl) | rfl)
        case hQb10 => exact fun _ _ _ h => h
        case hwb10 => rfl
        case hyb10 => ((intro w hSw; go_simp); first | done | with_reducible rfl)
        try simp only [Act.put, List.setIfInBounds_toArray, List.set_cons_zero, List.set_cons_succ]
        refine wpAnyH_take (i := 15) (oi := ?oib15) (v := ?vb15) ?hib15 (by kernel_rfl) (by kernel_rfl) (by kernel_rfl) ?hQb15 (Or.inl ⟨?hwb15, ?hyb15⟩) (by assumption) ?restb15
        case hib15 => (first | (simp only [List.getElem?_toArray, List.getElem?_cons_zero, List.getElem?_cons_succ]; rfl) | rfl)
        case hQb15 => exact fun _ _ _ h => h
        case hwb15 => rfl
        case hyb15 => ((intro w hSw; go_simp); first | done | with_reducible rfl)
        try simp only [Act.put, List.setIfInBounds_toArray, List.set_cons_zero, List.set_cons_succ]
        refine wpAnyH_take (i := 16) (oi := ?oib16) (v := ?vb16) ?hib16 (by kernel_rfl) (by kernel_rfl) (by kernel_rfl) ?hQb16 (Or.inl ⟨?hwb16, ?hyb16⟩) (by assumption) ?restb16
        case hib16 => (first | (simp only [List.getElem?_toArray, List.getElem?_cons_zero, List.getElem?_cons_succ]; rfl) | rfl)
        case hQb16 => exact fun _ _ _ h => h
        case hwb16 => rfl
        case hyb16 => ((intro w hSw; go_simp); first | done | with_reducible rfl)
        try simp only [Act.put, List.setIfInBounds_toArray, List.set_cons_zero, List.set_cons_succ]
        refine wpAnyH_take (i := 17) (oi := ?oib17) (v := ?vb17) ?hib17 (by kernel_rfl) (by kernel_rfl) (by kernel_rfl) ?hQb17 (Or.inl ⟨?hwb17, ?hyb17⟩) (by assumption) ?restb17
        case hib17 => (first | (simp only [List.getElem?_toArray, List.getElem?_cons_zero, List.getElem?_cons_succ]; rfl) | rfl)
        case hQb17 => exact fun _ _ _ h => h
        case hwb17 => rfl
        case hyb17 => ((intro w hSw; go_simp); first | done | with_reducible rfl)
        try simp only [Act.put, List.setIfInBounds_toArray, List.set_cons_zero, List.set_cons_succ]
        refine wpAnyH_done (by kernel_rfl) ?_ _
        go_wp2
        go_ret
        exact ⟨rfl, below_then HB8.out H9.out HB8.out.size⟩
      · have hge := getF_err C
        rw [HG.out] at hge
        simp only at hge
        obtain ⟨h1, h2⟩ : y = [] ∧ j = 0 := by
          rcases hge with h | h
          · exact absurd h hf
          · exact h
        subst h1 h2
        have d1 : (f != 0) = true := by simpa using hf
        clear hf hge
        go_wp2
        go_ret
        exact ⟨rfl, HB8.out⟩
end Go.Proofs.Ytikibkagdjlhoaa
