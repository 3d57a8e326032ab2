/- LebBack, walked. -/
import Derived.Test.YtmncnbnloonenaaLLaws2
import Derived.Deep.RegionHeld3
namespace Go.Proofs.Ytmncnbnloonenaa
open Go.RowKit Go.Maps Go.WideMaps Go.Shelf

/-- Inside a region that draws, more may be known from here on. -/
theorem held_more {P : Program} {md : Region.Mode} {ops : Array Oper} {Q : Exit → Act → World → Prop} {S S' : World → Prop} (h : ∀ w, S' w → S w) : ∀ (fuel : Nat) (listed : Array Bool) (a : Act) (w : World), wpAnyH P md ops Q S' fuel listed a w → wpAnyH P md ops Q S fuel listed a w
  | 0, _, _, _, k => k
  | fuel + 1, _, _, _, k => ⟨k.1, fun i hi => wpOp_mono (fun a' w' h' => ⟨h w' h'.1, held_more h fuel _ a' w' h'.2⟩) (k.2 i hi)⟩

set_option linter.unusedSimpArgs false in
set_option maxHeartbeats 8000000 in
set_option maxRecDepth 100000 in
theorem lebBack_any (w : World) (n : Nat) (hn : n < 18446744073709551616) (A : Option Addr) (a ca : Nat) (la : Nm) (ha : BytesIn w A a la) (B : Option Addr) (b cb : Nat) (lb : Nm) (hb : BytesIn w B b lb) (hcb : b ≤ cb) :
    Calls Try.prog 4 #[.int .u64 n, .slice A a ca, .slice B b cb] w fun e w' => e = .returned (.bool true) ∧ Below w.heap.size w w' := by
  have HA := Lib.hid ha
  have HB := Lib.hid hb
  have a63 : a ≤ 9223372036854775807 := ha.1
  have b63 : b ≤ 9223372036854775807 := hb.1
  obtain ⟨i0, hi, hz0, hz1, hz2⟩ := info_parts byteInfo
  have hn0 := putL_pos n
  have hn10 := putL_len n hn
  have hgp := getL_put hn la
  obtain ⟨P, hP⟩ : ∃ P, putL n = P := ⟨_, rfl⟩
  obtain ⟨m, hm⟩ : ∃ m, P.length = m := ⟨_, rfl⟩
  rw [hP, hm] at hn0 hn10 hgp
  have HP := Lib.hid hP
  have HM := Lib.hid hm
  have HN := Lib.hid hn
  have HGP := Lib.hid hgp
  clear ha hb hP hm hn hgp
  go_enter Try.func4, Try.ntmps4
  go_wp2_with fail
  refine (lebHead_any w).mono ?_
  rintro e w1 ⟨rfl, hb⟩
  have B1 := Lib.hid hb
  have A1 := Lib.hid (HA.out.below hb)
  have C1 := Lib.hid (HB.out.below hb)
  clear hb
  by_cases hbig : 1000 < a
  · have hbz : (1000 : Int) < (a : Int) := by omega
    go_wp2
    go_ret
    exact ⟨rfl, B1.out⟩
  have hbz : ¬ (1000 : Int) < (a : Int) := by omega
  by_cases hbig2 : 1000 < b
  · have hbz2 : (1000 : Int) < (b : Int) := by omega
    go_wp2
    go_ret
    exact ⟨rfl, B1.out⟩
  have hbz2 : ¬ (1000 : Int) < (b : Int) := by omega
  go_wp2_with fail
  refine (lPut_is w1 _ n HN.out P m HP.out HM.out rfl).mono ?_
  rintro e w2 ⟨A2, c2, rfl, hO2, hB2⟩
  have B2 := Lib.hid (below_then B1.out hB2 B1.out.size)
  have A2' := Lib.hid ((A1.out.below hB2).below ((Below.refl _ w2).alloc (Nat.le_refl _) (.cells #[] 5)))
  have C2 := Lib.hid (C1.out.below hB2)
  have S2 := Lib.hid ((BytesIn.own hO2 (by unfold maxLen; omega)).below ((Below.refl _ w2).alloc (Nat.le_refl _) (.cells #[] 5)))
  clear hO2 hB2
  go_wp2_with (first
    | (at_builtin; refine wpList_append_src _ rfl (.tmp 28) (.tmp 29) 23 rfl w2.heap.size 5 i0 (.int .u8 0) 1 Try.underlying23 hi hz0 hz1 hz2 rfl _ 0 [] rfl (World.ownsRow_made w2 #[] 0 (Nat.le_refl _) (Nat.zero_le _) rfl) A2 m c2 (P.map byteV) rfl S2.out.2.1 (u8_one P) (by unfold maxLen; omega) (by omega) (by simp) ?_; intro v3 w3 hown hgrow hloc; obtain ⟨A3, c3, hv⟩ := own_slice hown; subst hv; rw [Nat.zero_add, List.nil_append] at hown; have HO3 := Lib.hid hown; have HB3 : Hid (Below w2.heap.size w2 w3) := Lib.hid ((((Below.refl _ w2).alloc (Nat.le_refl _) (.cells #[] 5)).grown hgrow (by simp) (fun k e => by cases e; exact Nat.le_refl _))); have A3' := Lib.hid (A2'.out.keep (Kept.grown (F := fun i => i = w2.heap.size) (Kept.refl _ _) hgrow (fun k e => by cases e; exact .inl rfl)) (fun ad e h0 h => by have := (HA.out.2.2 ad e h0); have := B2.out.size; omega)); clear hown hgrow hloc)
    | (at_builtin; refine wpList_append_src _ rfl (.tmp 30) (.tmp 31) 23 rfl w2.heap.size 5 i0 (.int .u8 0) 1 Try.underlying23 hi hz0 hz1 hz2 rfl _ _ _ rfl HO3.out A a ca (la.map byteV) rfl A3'.out.2.1 (u8_one la) (by unfold maxLen; omega) (by omega) HB3.out.size ?_; intro v4 w4 hown hgrow hloc; obtain ⟨A4, c4, hv⟩ := own_slice hown; subst hv; rw [← List.map_append] at hown; have HO4 := Lib.hid hown; have HB4 := Lib.hid (HB3.out.grown hgrow HB3.out.size (fun g hg => (HO3.out.lt g hg).1)); clear hown hgrow hloc))
  refine (lGet_is _ A4 (m + a) c4 _ (BytesIn.own HO4.out (by unfold maxLen; omega)) HGP.out).mono ?_
  rintro e w5 ⟨rfl, hw⟩
  rw [hw]
  clear hw
  have B4 := Lib.hid (below_then B2.out HB4.out B2.out.size)
  have C4 := Lib.hid (C2.out.below HB4.out)
  have k1 : ¬ ((m : Int) < 1) := by omega
  have k2 : ¬ ((10 : Int) < (m : Int)) := by omega
  obtain ⟨y, j, f, hg⟩ : ∃ y j f, getL lb = (y, j, f) := ⟨_, _, _, rfl⟩
  have HG := Lib.hid hg
  clear hg A2' A3' S2 HO3 HB3 HO4 HB4 C2 A1 C1
  go_wp2_with fail
  refine (lGet_is w4 B b cb lb C4.out HG.out).mono ?_
  rintro e w6 ⟨rfl, hw⟩
  rw [hw]
  clear hw
  by_cases hf : f = 0
  · subst hf
    have hgi := getL_inv HG.out
    obtain ⟨q1, q2, q3, q4, q5⟩ := hgi
    have hbl : lb.length = b := by have := HB.out.2.1.len; simpa using this
    rw [hbl] at q3
    have HQ4 := Lib.hid q4.symm
    have hjl : (lb.take j).length = j := by rw [List.length_take, hbl]; omega
    have HJL := Lib.hid hjl
    have hjm : j ≤ maxLen := by unfold maxLen; omega
    clear q4 hjl hbl
    have s1 : ∀ w, (Instr.slice 23 (.slice B b cb) none (some (.int .i64 j)) none).run Try.prog w = .ok (.slice B j cb) w := fun w => slice_to w B b cb j (by omega)
    have hjz : (j : Int) ≤ (b : Int) := by omega
    have d1 : decide ((j : Int) ≤ (b : Int)) = true := by simpa using hjz
    have hcv : ∀ w', Still w B b lb w' → (convert 23 9 (.slice B j cb)).run Try.prog w' = .ok (.string ⟨(lb.take j).toArray⟩) w' := fun w' h => str_of (h.bytes.upto j q3) cb
    go_wp2_with fail
    refine wp_region_held_drew (S := fun w' => Still w B b lb w') (by kernel_rfl) ?_ (fun hHeld => ?_)
    · exact Still.drew ⟨B4.out, C4.out⟩
    refine wpAnyH_take (i := 0) (oi := ?oi0) (v := ?v0) ?hi0 (by kernel_rfl) (by kernel_rfl) (by kernel_rfl) ?hQ0 (Or.inl ⟨?hw0, ?hy0⟩) (by assumption) ?rest0
    case hi0 => (first | (simp only [List.getElem?_toArray, List.getElem?_cons_zero, List.getElem?_cons_succ]; rfl) | rfl)
    case hQ0 => exact fun _ _ _ h => h
    case hw0 => rfl
    case hy0 => ((intro w hSw; go_simp); first | done | with_reducible rfl)
    try simp only [Act.put, List.setIfInBounds_toArray, List.set_cons_zero, List.set_cons_succ]
    refine wpAnyH_take (i := 1) (oi := ?oi1) (v := ?v1) ?hi1 (by kernel_rfl) (by kernel_rfl) (by kernel_rfl) ?hQ1 (Or.inl ⟨?hw1, ?hy1⟩) (by assumption) ?rest1
    case hi1 => (first | (simp only [List.getElem?_toArray, List.getElem?_cons_zero, List.getElem?_cons_succ]; rfl) | rfl)
    case hQ1 => exact fun _ _ _ h => h
    case hw1 => rfl
    case hy1 => ((intro w hSw; go_simp); first | done | with_reducible rfl)
    try simp only [Act.put, List.setIfInBounds_toArray, List.set_cons_zero, List.set_cons_succ]
    refine wpAnyH_take (i := 2) (oi := ?oi2) (v := ?v2) ?hi2 (by kernel_rfl) (by kernel_rfl) (by kernel_rfl) ?hQ2 (Or.inl ⟨?hw2, ?hy2⟩) (by assumption) ?rest2
    case hi2 => (first | (simp only [List.getElem?_toArray, List.getElem?_cons_zero, List.getElem?_cons_succ]; rfl) | rfl)
    case hQ2 => exact fun _ _ _ h => h
    case hw2 => rfl
    case hy2 => ((intro w hSw; go_simp); first | done | with_reducible rfl)
    try simp only [Act.put, List.setIfInBounds_toArray, List.set_cons_zero, List.set_cons_succ]
    refine wpAnyH_take (i := 3) (oi := ?oi3) (v := ?v3) ?hi3 (by kernel_rfl) (by kernel_rfl) (by kernel_rfl) ?hQ3 (Or.inl ⟨?hw3, ?hy3⟩) (by assumption) ?rest3
    case hi3 => (first | (simp only [List.getElem?_toArray, List.getElem?_cons_zero, List.getElem?_cons_succ]; rfl) | rfl)
    case hQ3 => exact fun _ _ _ h => h
    case hw3 => rfl
    case hy3 => ((intro w hSw; go_simp); first | done | with_reducible rfl)
    try simp only [Act.put, List.setIfInBounds_toArray, List.set_cons_zero, List.set_cons_succ]
    refine wpAnyH_take (i := 4) (oi := ?oi4) (v := ?v4) ?hi4 (by kernel_rfl) (by kernel_rfl) (by kernel_rfl) ?hQ4 (Or.inl ⟨?hw4, ?hy4⟩) (by assumption) ?rest4
    case hi4 => (first | (simp only [List.getElem?_toArray, List.getElem?_cons_zero, List.getElem?_cons_succ]; rfl) | rfl)
    case hQ4 => exact fun _ _ _ h => h
    case hw4 => rfl
    case hy4 => ((intro w hSw; go_simp); first | done | with_reducible rfl)
    try simp only [Act.put, List.setIfInBounds_toArray, List.set_cons_zero, List.set_cons_succ]
    refine wpAnyH_take (i := 5) (oi := ?oi5) (v := ?v5) ?hi5 (by kernel_rfl) (by kernel_rfl) (by kernel_rfl) ?hQ5 (Or.inl ⟨?hw5, ?hy5⟩) (by assumption) ?rest5
    case hi5 => (first | (simp only [List.getElem?_toArray, List.getElem?_cons_zero, List.getElem?_cons_succ]; rfl) | rfl)
    case hQ5 => exact fun _ _ _ h => h
    case hw5 => rfl
    case hy5 => ((intro w hSw; go_simp); first | done | with_reducible rfl)
    try simp only [Act.put, List.setIfInBounds_toArray, List.set_cons_zero, List.set_cons_succ]
    refine wpAnyH_take (i := 6) (oi := ?oi6) (v := ?v6) ?hi6 (by kernel_rfl) (by kernel_rfl) (by kernel_rfl) ?hQ6 (Or.inl ⟨?hw6, ?hy6⟩) (by assumption) ?rest6
    case hi6 => (first | (simp only [List.getElem?_toArray, List.getElem?_cons_zero, List.getElem?_cons_succ]; rfl) | rfl)
    case hQ6 => exact fun _ _ _ h => h
    case hw6 => rfl
    case hy6 => ((intro w hSw; go_simp); first | done | with_reducible rfl)
    try simp only [Act.put, List.setIfInBounds_toArray, List.set_cons_zero, List.set_cons_succ]
    refine wpAnyH_take (i := 7) (oi := ?oi7) (v := ?v7) ?hi7 (by kernel_rfl) (by kernel_rfl) (by kernel_rfl) ?hQ7 (Or.inl ⟨?hw7, ?hy7⟩) (by assumption) ?rest7
    case hi7 => (first | (simp only [List.getElem?_toArray, List.getElem?_cons_zero, List.getElem?_cons_succ]; rfl) | rfl)
    case hQ7 => exact fun _ _ _ h => h
    case hw7 => rfl
    case hy7 => ((intro w hSw; go_simp); first | done | with_reducible rfl)
    try simp only [Act.put, List.setIfInBounds_toArray, List.set_cons_zero, List.set_cons_succ]
    refine wpAnyH_take (i := 8) (oi := ?oi8) (v := ?v8) ?hi8 (by kernel_rfl) (by kernel_rfl) (by kernel_rfl) ?hQ8 (Or.inl ⟨?hw8, ?hy8⟩) (by assumption) ?rest8
    case hi8 => (first | (simp only [List.getElem?_toArray, List.getElem?_cons_zero, List.getElem?_cons_succ]; rfl) | rfl)
    case hQ8 => exact fun _ _ _ h => h
    case hw8 => rfl
    case hy8 => ((intro w hSw; go_simp); first | done | with_reducible rfl)
    try simp only [Act.put, List.setIfInBounds_toArray, List.set_cons_zero, List.set_cons_succ]
    refine wpAnyH_take (i := 11) (oi := ?oi11) (v := ?v11) ?hi11 (by kernel_rfl) (by kernel_rfl) (by kernel_rfl) ?hQ11 (Or.inl ⟨?hw11, ?hy11⟩) (by assumption) ?rest11
    case hi11 => (first | (simp only [List.getElem?_toArray, List.getElem?_cons_zero, List.getElem?_cons_succ]; rfl) | rfl)
    case hQ11 => exact fun _ _ _ h => h
    case hw11 => rfl
    case hy11 => ((intro w hSw; go_simp); first | done | with_reducible rfl)
    try simp only [Act.put, List.setIfInBounds_toArray, List.set_cons_zero, List.set_cons_succ]
    refine wpAnyH_take (i := 12) (oi := ?oi12) (v := ?v12) ?hi12 (by kernel_rfl) (by kernel_rfl) (by kernel_rfl) ?hQ12 (Or.inl ⟨?hw12, ?hy12⟩) (by assumption) ?rest12
    case hi12 => (first | (simp only [List.getElem?_toArray, List.getElem?_cons_zero, List.getElem?_cons_succ]; rfl) | rfl)
    case hQ12 => exact fun _ _ _ h => h
    case hw12 => rfl
    case hy12 => ((intro w hSw; go_simp); first | done | with_reducible rfl)
    try simp only [Act.put, List.setIfInBounds_toArray, List.set_cons_zero, List.set_cons_succ]
    refine wpAnyH_take (i := 13) (oi := ?oi13) (v := ?v13) ?hi13 (by kernel_rfl) (by kernel_rfl) (by kernel_rfl) ?hQ13 (Or.inl ⟨?hw13, ?hy13⟩) (by assumption) ?rest13
    case hi13 => (first | (simp only [List.getElem?_toArray, List.getElem?_cons_zero, List.getElem?_cons_succ]; rfl) | rfl)
    case hQ13 => exact fun _ _ _ h => h
    case hw13 => rfl
    case hy13 => ((intro w hSw; go_simp); first | done | with_reducible rfl)
    try simp only [Act.put, List.setIfInBounds_toArray, List.set_cons_zero, List.set_cons_succ]
    refine wpAnyH_take (i := 14) (oi := ?oi14) (v := ?v14) ?hi14 (by kernel_rfl) (by kernel_rfl) (by kernel_rfl) ?hQ14 (Or.inl ⟨?hw14, ?hy14⟩) (by assumption) ?rest14
    case hi14 => (first | (simp only [List.getElem?_toArray, List.getElem?_cons_zero, List.getElem?_cons_succ]; rfl) | rfl)
    case hQ14 => exact fun _ _ _ h => h
    case hw14 => rfl
    case hy14 => ((intro w hSw; go_simp); first | done | with_reducible rfl)
    try simp only [Act.put, List.setIfInBounds_toArray, List.set_cons_zero, List.set_cons_succ]
    refine wpAnyH_ready (rs := [9]) (by kernel_rfl) (by simp) ?_
    refine AllReadyH.cons (o := ?o) ?hi ?step AllReadyH.nil
    case hi => (simp only [List.getElem?_toArray, List.getElem?_cons_zero, List.getElem?_cons_succ]; rfl)
    intro K hK
    go_simp
    refine (lPut_is _ _ y q5 (lb.take j) j HQ4.out HJL.out ?_).mono ?_
    · exact rfl
    rintro e w7 ⟨A7, c7, rfl, hO, hb⟩
    obtain ⟨qp, qp2⟩ := str_own hO hjm
    have H7 := Lib.hid (Still.then hHeld hb)
    clear hO
    go_wp2_with fail
    refine hK.out _ _ H7.out (fun hHeld => ?_)
    refine held_more (S' := fun w' => Below w7.heap.size w7 w' ∧ Still w B b lb w') (fun w h => h.2) _ _ _ _ ?_
    have hHeld2 : (fun w' => Below w7.heap.size w7 w' ∧ Still w B b lb w') w7 := ⟨Below.refl _ _, H7.out⟩
    try simp only [Act.put, List.setIfInBounds_toArray, List.set_cons_zero, List.set_cons_succ]
    refine wpAnyH_take (i := 10) (oi := ?oi10) (v := ?v10) ?hi10 (by kernel_rfl) (by kernel_rfl) (by kernel_rfl) ?hQ10 (Or.inl ⟨?hw10, ?hy10⟩) (by assumption) ?rest10
    case hi10 => (first | (simp only [List.getElem?_toArray, List.getElem?_cons_zero, List.getElem?_cons_succ]; rfl) | rfl)
    case hQ10 => exact fun _ _ _ h => h
    case hw10 => rfl
    case hy10 => ((intro w hSw; go_simp); first | done | with_reducible rfl)
    try simp only [Act.put, List.setIfInBounds_toArray, List.set_cons_zero, List.set_cons_succ]
    refine wpAnyH_take (i := 15) (oi := ?oi15) (v := ?v15) ?hi15 (by kernel_rfl) (by kernel_rfl) (by kernel_rfl) ?hQ15 (Or.inl ⟨?hw15, ?hy15⟩) (by assumption) ?rest15
    case hi15 => (first | (simp only [List.getElem?_toArray, List.getElem?_cons_zero, List.getElem?_cons_succ]; rfl) | rfl)
    case hQ15 => exact fun _ _ _ h => h
    case hw15 => rfl
    case hy15 => ((intro w hSw; go_simp); first | done | with_reducible rfl)
    try simp only [Act.put, List.setIfInBounds_toArray, List.set_cons_zero, List.set_cons_succ]
    refine wpAnyH_take (i := 16) (oi := ?oi16) (v := ?v16) ?hi16 (by kernel_rfl) (by kernel_rfl) (by kernel_rfl) ?hQ16 (Or.inl ⟨?hw16, ?hy16⟩) (by assumption) ?rest16
    case hi16 => (first | (simp only [List.getElem?_toArray, List.getElem?_cons_zero, List.getElem?_cons_succ]; rfl) | rfl)
    case hQ16 => exact fun _ _ _ h => h
    case hw16 => rfl
    case hy16 => ((intro w hSw; go_simp); first | done | with_reducible rfl)
    try simp only [Act.put, List.setIfInBounds_toArray, List.set_cons_zero, List.set_cons_succ]
    refine wpAnyH_take (i := 17) (oi := ?oi17) (v := ?v17) ?hi17 (by kernel_rfl) (by kernel_rfl) (by kernel_rfl) ?hQ17 (Or.inl ⟨?hw17, ?hy17⟩) (by assumption) ?rest17
    case hi17 => (first | (simp only [List.getElem?_toArray, List.getElem?_cons_zero, List.getElem?_cons_succ]; rfl) | rfl)
    case hQ17 => exact fun _ _ _ h => h
    case hw17 => rfl
    case hy17 => ((intro w hSw; go_simp); first | done | with_reducible rfl)
    try simp only [Act.put, List.setIfInBounds_toArray, List.set_cons_zero, List.set_cons_succ]
    refine wpAnyH_done (by kernel_rfl) ?_ _
    go_wp2
    go_ret
    exact ⟨rfl, H7.out.below⟩
  · have hge := getL_err lb
    rw [HG.out] at hge
    simp only at hge
    obtain ⟨h1, h2⟩ : y = 0 ∧ j = 0 := by
      rcases hge with h | ⟨_, h1, h2⟩
      · exact absurd h hf
      · exact ⟨h1, h2⟩
    subst h1 h2
    have d1 : (f != 0) = true := by simpa using hf
    have HF := Lib.hid hf
    clear hf hge
    go_wp2
    go_ret
    exact ⟨rfl, B4.out⟩
end Go.Proofs.Ytmncnbnloonenaa
