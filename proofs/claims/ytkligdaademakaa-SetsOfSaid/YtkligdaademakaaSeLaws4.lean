/- SetsWalks. -/
import Derived.Test.YtkligdaademakaaSeWant
import Derived.Test.YtkligdaademakaaSeHead
import Derived.Test.YtkligdaademakaaSeRef4
namespace Go.Proofs.Ytkligdaademakaa
open Go.RowKit Go.Maps Go.WideMaps
set_option linter.unusedSimpArgs false

theorem eqSetNil (w : World) (p : Option Addr) : (binOp .eql 28 (.pointer p) (.pointer none)).run Try.prog w = .ok (.bool p.isNone) w := by
  have h : ∀ d : Nat, (Op.equalIn (d + 1) 28 (.pointer p) (.pointer none)).run Try.prog w = .ok p.isNone w := fun d => by
    cases p <;> simp [Op.equalIn, run_underlying Try.underlying28]
  simp only [binOp]
  simp [Op.equal, Op.maxDepth, h 9999]
theorem drop_cons' {L : List Int} {a : Nat} (h : a < L.length) : L.drop a = L.getD a 0 :: L.drop (a + 1) := by
  rw [List.drop_eq_getElem_cons h, List.getD_eq_getElem?_getD, List.getElem?_eq_getElem h]
  rfl
theorem drop_none' {L : List Int} {a : Nat} (h : ¬ a < L.length) : L.drop a = [] := List.drop_of_length_le (by omega)
theorem drop_doc (L : List Int) (a : Nat) : (L.drop a).headD 0 = wDoc L a := by
  unfold wDoc
  by_cases h : a < L.length
  · rw [drop_cons' h, if_pos h]; rfl
  · rw [drop_none' h, if_neg h]; rfl
theorem drop_emp (L : List Int) (a : Nat) : (!(L.drop a).isEmpty) = decide (a < L.length) := by
  by_cases h : a < L.length
  · rw [drop_cons' h, decide_eq_true h]; rfl
  · rw [drop_none' h, decide_eq_false h]; rfl
theorem drop_next (L : List Int) (a : Nat) : (L.drop a).tail = L.drop (wNext L a) := by
  unfold wNext
  by_cases h : a < L.length
  · rw [drop_cons' h, if_pos h]; rfl
  · rw [drop_none' h, if_neg h, drop_none' h]; rfl
theorem drop_skip (L : List Int) (d : Int) (a : Nat) : (L.drop a).dropWhile (fun x => decide (x < d)) = L.drop (wSkip L d a) := by
  have key : ∀ (f a : Nat), f = L.length - a → (L.drop a).dropWhile (fun x => decide (x < d)) = L.drop (wSkipN L d f a) := by
    intro f
    induction f with
    | zero => intro a h; rw [wSkipN, drop_none' (by omega)]; rfl
    | succ f ih =>
      intro a h
      have hl : a < L.length := by omega
      rw [wSkipN]
      by_cases h2 : L.getD a 0 < d
      · rw [if_pos ⟨hl, h2⟩, ← ih (a + 1) (by omega), drop_cons' hl, List.dropWhile_cons, if_pos (by simpa using h2)]
      · rw [if_neg (fun e => h2 e.2), drop_cons' hl, List.dropWhile_cons, if_neg (by simpa using h2)]
  exact key _ a rfl
theorem wSkipN_le (L : List Int) (d : Int) : ∀ (f a : Nat), a ≤ L.length → wSkipN L d f a ≤ L.length
  | 0, a, h => h
  | f + 1, a, h => by
    rw [wSkipN]
    split
    · exact wSkipN_le L d f (a + 1) (by omega)
    · exact h
/-- A set, and a walk through what it had: where each stands. -/
structure PairW (S : SetP) (W w : World) (G : Nat → Prop) (ad : Addr) (lo b : Nat) (L : List Int) (a a' : Nat) : Prop where
  set : ∃ F, Pool S W w G [⟨some ad, L.drop a, F⟩] ∧ ∀ i, F i → i < lo ∨ b < i
  walk : WalkAt w lo b L a'
  hlo : lo ≤ b
  hG : ∀ i, lo ≤ i → ¬ G i
  few : L.length ≤ 1000000
section
variable {S : SetP} (hS : SetsOk S) {W w w' : World} {G : Nat → Prop} {ad : Addr} {lo b : Nat} {L : List Int} {a a' : Nat}
include hS
theorem PairW.turn (h : PairW S W w G ad lo b L a a') {F F' : Nat → Prop} {a2 : Nat} (hF : ∀ i, F i → i < lo ∨ b < i) (hp : Pool S W w G [⟨some ad, L.drop a, F⟩]) (h1 : S w' F' G (some ad) (L.drop a2)) (hk : Kept F w w') (h2 : ∀ i, F' i → F i ∨ w.heap.size ≤ i) : PairW S W w' G ad lo b L a2 a' where
  set := ⟨F', by
    have h3 := Pool.push hS (L := []) (H := F) (y := ⟨some ad, L.drop a2, F'⟩) (Pool.left (L := []) (M := [⟨some ad, L.drop a, F⟩]) hp) hk (fun i hi => ⟨hp.far ⟨some ad, L.drop a, F⟩ (by simp) i hi, by simp⟩) h1 h2
    simpa using h3, fun i hi => by
    rcases h2 i hi with h4 | h4
    · exact hF i h4
    · have := h.walk.lt; omega⟩
  walk := h.walk.keep (fun i h3 h4 => hk.block i (by have := h.walk.lt; omega) (fun e => by have := hF i e; omega)) h.hlo
  hlo := h.hlo
  hG := h.hG
  few := h.few
theorem pw_doc (h : PairW S W w G ad lo b L a a') : Calls Try.prog 14 #[.pointer (some ad)] w fun e w' => e = .returned (.tuple #[.int .i64 (wDoc L a), .bool (decide (a < L.length))]) ∧ PairW S W w' G ad lo b L a a' := by
  obtain ⟨F, hp, hF⟩ := h.set
  refine (hS.doc w F G ad (L.drop a) (hp.each _ (List.mem_singleton.2 rfl)) (hp.far _ (List.mem_singleton.2 rfl))).mono ?_
  rintro e w' ⟨rfl, F', h1, h2, h3⟩
  rw [drop_doc, drop_emp]
  exact ⟨rfl, h.turn hS hF hp h1 h2 h3⟩
theorem pw_next (h : PairW S W w G ad lo b L a a') : Calls Try.prog 16 #[.pointer (some ad)] w fun e w' => e = .returned (.bool (decide (wNext L a < L.length))) ∧ PairW S W w' G ad lo b L (wNext L a) a' := by
  obtain ⟨F, hp, hF⟩ := h.set
  refine (hS.next w F G ad (L.drop a) (hp.each _ (List.mem_singleton.2 rfl)) (hp.far _ (List.mem_singleton.2 rfl))).mono ?_
  rintro e w' ⟨rfl, F', h1, h2, h3⟩
  rw [drop_next] at h1 ⊢
  rw [drop_emp]
  exact ⟨rfl, h.turn hS hF hp h1 h2 h3⟩
theorem pw_skip (h : PairW S W w G ad lo b L a a') (d : Int) (hd : fits64 d) : Calls Try.prog 18 #[.pointer (some ad), .int .i64 d] w fun e w' => e = .returned (.bool (decide (wSkip L d a < L.length))) ∧ PairW S W w' G ad lo b L (wSkip L d a) a' := by
  obtain ⟨F, hp, hF⟩ := h.set
  refine (hS.skip w F G ad (L.drop a) d (hp.each _ (List.mem_singleton.2 rfl)) (hp.far _ (List.mem_singleton.2 rfl)) hd).mono ?_
  rintro e w' ⟨rfl, F', h1, h2, h3⟩
  rw [drop_skip] at h1 ⊢
  rw [drop_emp]
  exact ⟨rfl, h.turn hS hF hp h1 h2 h3⟩
theorem PairW.later (h : PairW S W w G ad lo b L a a') (hb : Below w.heap.size w w') : PairW S W w' G ad lo b L a a' := by
  obtain ⟨F, hp, hF⟩ := h.set
  exact ⟨⟨F, hp.later hS hb, hF⟩, h.walk.keep (fun i _ h4 => hb.block i (by have := h.walk.lt; omega)) h.hlo, h.hlo, h.hG, h.few⟩
theorem PairW.walked (h : PairW S W w G ad lo b L a a') {a2 : Nat} (h1 : WalkAt w' lo b L a2) (hk : Kept (fun i => i = b) w w') : PairW S W w' G ad lo b L a a2 := by
  obtain ⟨F, hp, hF⟩ := h.set
  refine ⟨⟨F, hp.kept hS hk (fun i e => ⟨?_, fun x hx hf => ?_⟩), hF⟩, h1, h.hlo, h.hG, h.few⟩
  · rw [e]; exact h.hG b h.hlo
  · rw [List.mem_singleton.1 hx] at hf
    have := hF i hf
    have := h.hlo
    omega
theorem pr_doc (h : PairW S W w G ad lo b L a a') : Calls Try.prog 15 #[.pointer (some ⟨b, 0, none⟩)] w fun e w' => e = .returned (.tuple #[.int .i64 (wDoc L a'), .bool (decide (a' < L.length))]) ∧ PairW S W w' G ad lo b L a a' := by
  refine (r11Doc_any h.walk).mono ?_
  rintro e w' ⟨rfl, q, rfl⟩
  exact ⟨rfl, h.later hS (below_drewN (Below.refl _ w) q)⟩
theorem pr_next (h : PairW S W w G ad lo b L a a') : Calls Try.prog 17 #[.pointer (some ⟨b, 0, none⟩)] w fun e w' => e = .returned (.bool (decide (wNext L a' < L.length))) ∧ PairW S W w' G ad lo b L a (wNext L a') := by
  refine (r11Next_any h.walk h.hlo h.few).mono ?_
  rintro e w' ⟨rfl, h1, h2⟩
  exact ⟨rfl, h.walked hS h1 h2⟩
theorem pr_skip (h : PairW S W w G ad lo b L a a') (d : Int) : Calls Try.prog 19 #[.pointer (some ⟨b, 0, none⟩), .int .i64 d] w fun e w' => e = .returned (.bool (decide (wSkip L d a' < L.length))) ∧ PairW S W w' G ad lo b L a (wSkip L d a') := by
  refine (r11Skip_any h.walk h.hlo h.few d).mono ?_
  rintro e w' ⟨rfl, h1, h2⟩
  exact ⟨rfl, h.walked hS h1 h2⟩
end

set_option maxHeartbeats 16000000 in
set_option maxRecDepth 100000 in
theorem setsWalks_any {S : SetP} (hS : SetsOk S) (W : World) (A : Option Addr) (n c : Nat) (T : List SOp) (h : SOpsSee W A n T) (hn : n ≤ 140737488351232) (hz : ∀ x ∈ T, x.l.length ≤ 140737488351232) (B : Option Addr) (m cm : Nat) (cs : List (Int × Int)) (ho : PairsIn W B m cs) (hm : m ≤ 140737488351232) :
    Calls Try.prog 4 #[.slice A n c, .slice B m cm] W fun e w' => e = .returned (.bool true) ∧ Below W.heap.size W w' := by
  have hep := eqSetNil
  have HT := Lib.hid h
  have HZ := Lib.hid hz
  have HO := Lib.hid ho
  clear h hz ho
  go_enter Try.func4, Try.ntmps4
  go_wp2_with fail
  refine (seHead_any hS W).mono ?_
  rintro e w1 ⟨rfl, hb1⟩
  have HB1 := Lib.hid hb1
  have HT1 := Lib.hid (HT.out.below hb1)
  have HO1 := Lib.hid (HO.out.below hb1)
  clear hb1
  go_wp2_with fail
  refine (seGreat_any w1 A n c T HT1.out hn HZ.out).mono ?_
  rintro e w2 ⟨r, rfl, hw2, hr⟩
  subst hw2
  have HR := Lib.hid hr
  clear hr
  cases r with
  | true =>
    go_wp2
    go_ret
    exact ⟨rfl, HB1.out⟩
  | false =>
    have HSM := Lib.hid (HR.out rfl)
    by_cases hm2 : 200 < m
    · have d1 : decide ((200 : Int) < (m : Int)) = true := decide_eq_true (by omega)
      go_wp2
      go_ret
      exact ⟨rfl, HB1.out⟩
    have d1 : decide ((200 : Int) < (m : Int)) = false := decide_eq_false (by omega)
    go_wp2_with fail
    refine (seMade_any hS w2 A n c T HT1.out HSM.out).mono ?_
    rintro e w3 ⟨y, rfl, hy, hp⟩
    have HP3 := Lib.hid hp
    have HT3 := Lib.hid (HT1.out.below hp.below)
    have HO3 := Lib.hid (HO1.out.below hp.below)
    have hz3 := hp.below.size
    have HFEW := Lib.hid (wantL_few HSM.out)
    have HY := Lib.hid hy
    clear hp hy
    go_wp2_with fail
    refine (seWant_any w3 A n c T HT3.out HSM.out).mono ?_
    rintro e w4 ⟨u, rfl, hno, hb4⟩
    obtain ⟨L, hL⟩ : ∃ L, L = wantL T := ⟨_, rfl⟩
    rw [← hL] at hno HFEW HY
    obtain ⟨A4, c4, rfl, hc4, hi4, hf4⟩ := hno.see
    have HI4 := Lib.hid hi4
    have HF4 := Lib.hid hf4
    obtain ⟨w5, hw5⟩ : ∃ w5, w5 = w4.alloc (.cells #[.slice A4 L.length c4, .int .i64 0] 34) := ⟨_, rfl⟩
    have hb5 : Below w4.heap.size w4 w5 := by rw [hw5]; exact (Below.refl _ w4).alloc (Nat.le_refl _) _
    have hblk : Blk w5 w4.heap.size 34 #[.slice A4 L.length c4, .int .i64 0] := by rw [hw5]; exact Blk.new _ _ _
    have hb45 : Below w3.heap.size w3 w5 := below_then hb4 hb5 hb4.size
    have HWA : Hid (WalkAt w5 w3.heap.size w4.heap.size L 0) := Lib.hid ⟨Nat.zero_le _, w4, A4, c4, hi4, fun ad e h0 => (hf4 ad e h0).1, Nat.le_refl _, fun i _ h2 => hb5.block i h2, hblk⟩
    have HP5 := Lib.hid (HP3.out.later hS hb45)
    have HO5 := Lib.hid (HO3.out.below hb45)
    have HYF : Hid (∀ i, y.F i → i < w3.heap.size) := Lib.hid (fun i hi => hS.lt (HP3.out.each y (by simp)) i hi)
    have hz4 := hb4.size
    have HW5 := Lib.hid hw5
    have HBK := Lib.hid hblk
    clear hno hi4 hf4 hb4 hw5 hb5 hblk hb45 hL
    obtain ⟨p, l, F⟩ := y
    have hy := HY.out
    simp only at hy
    subst hy
    cases p with
    | none =>
      have hl := hS.nil (HP5.out.each _ (List.mem_singleton.2 rfl))
      simp only at hl
      subst hl
      have HB5 : Hid (Below W.heap.size W w5) := Lib.hid (below_then HB1.out HP5.out.below HB1.out.size)
      have k0 := HBK.out.cell 0
      simp only [List.getElem?_toArray, List.getElem?_cons_zero] at k0
      go_wp2
      go_ret
      have hB := HB5.out
      rw [HW5.out] at hB
      exact ⟨rfl, hB⟩
    | some ad =>
      have HPW : Hid (PairW S w2 w5 (fun b => b < w2.heap.size) ad w3.heap.size w4.heap.size l 0 0) := Lib.hid ⟨⟨F, HP5.out, fun i hi => .inl (HYF.out i hi)⟩, HWA.out, hz4, fun i hi e => by omega, HFEW.out⟩
      go_wp2
      rw [← HW5.out]
      go_loopw [8] (fun iv wr => ∃ i a : Nat, i ≤ m ∧ iv = .int .i64 i ∧ PairW S w2 wr (fun b => b < w2.heap.size) ad w3.heap.size w4.heap.size l a a) (fun iv _ => m + 1 - (intOf iv).toNat)
      case atStart => exact ⟨0, 0, by omega, rfl, HPW.out⟩
      case round =>
        obtain ⟨i, a, him, rfl, hpw⟩ := hrel
        have HQ := Lib.hid hpw
        have hle : (i : Int) ≤ (m : Int) := by omega
        have d2 : decide ((i : Int) ≤ (m : Int)) = true := decide_eq_true hle
        obtain ⟨D, hD⟩ : ∃ D, D = wDoc l a := ⟨_, rfl⟩
        obtain ⟨I, hI⟩ : ∃ I, I = decide (a < l.length) := ⟨_, rfl⟩
        have HD := Lib.hid hD
        have HI := Lib.hid hI
        have hbe : ∀ (u : World) (a a' : Nat), PairW S w2 u (fun b => b < w2.heap.size) ad w3.heap.size w4.heap.size l a a' → Below w2.heap.size w2 u := fun u _ _ h => by obtain ⟨_, h1, _⟩ := h.set; exact h1.below
        have HBE := Lib.hid hbe
        have H1 := Lib.hid (pw_doc hS hpw)
        rw [← hD, ← hI] at H1
        clear hpw hD hI hbe
        go_wp2_with fail
        refine H1.out.mono ?_
        rintro e u1 ⟨rfl, hq1⟩
        have HQ1 := Lib.hid hq1
        have H2 := Lib.hid (pr_doc hS hq1)
        rw [← HD.out, ← HI.out] at H2
        clear hq1 H1
        go_wp2_with fail
        refine H2.out.mono ?_
        rintro e u2 ⟨rfl, hq2⟩
        have HQ2 := Lib.hid hq2
        have HBU := Lib.hid (HBE.out u2 _ _ hq2)
        have HO6 := Lib.hid (HO1.out.below (HBE.out u2 _ _ hq2))
        have d3 : (D != D) = false := by simp
        have d4 : (I != I) = false := by simp
        clear hq2 H2
        by_cases hie : i = m
        · have d5 : ((i : Int) == (m : Int)) = true := by rw [hie]; simp
          have HB6 : Hid (Below W.heap.size W u2) := Lib.hid (below_then HB1.out HBU.out HB1.out.size)
          go_wp2
          go_ret
          exact ⟨rfl, HB6.out⟩
        · have hlt : i < m := by omega
          have d5 : ((i : Int) == (m : Int)) = false := beq_eq_false_iff_ne.2 (by omega)
          have p0 : (0 : Int) ≤ (i : Int) := by omega
          have p1 : (i : Int) < (m : Int) := by omega
          have hw1 : IntKind.i64.wrap ((i : Int) + 1) = (i : Int) + 1 := IntWalk.i64_in _ (by omega)
          obtain ⟨pa, x, rfl, hx, a0, a1, hf1, hf2⟩ := HO6.out.at i hlt
          have HXX := Lib.hid hx
          obtain ⟨q1, q2⟩ := x
          simp only at hf1 hf2 a0 a1
          clear hx
          by_cases hq : q1 = 0
          · have d6 : (q1 == 0) = true := by simpa using hq
            obtain ⟨R, hRR⟩ : ∃ R, R = decide (wNext l a < l.length) := ⟨_, rfl⟩
            have H3 := Lib.hid (pw_next hS HQ2.out)
            rw [← hRR] at H3
            have HRR := Lib.hid hRR
            clear hq hRR
            go_wp2_with fail
            refine H3.out.mono ?_
            rintro e u3 ⟨rfl, hq3⟩
            have H4 := Lib.hid (pr_next hS hq3)
            rw [← HRR.out] at H4
            clear hq3 H3
            go_wp2_with fail
            refine H4.out.mono ?_
            rintro e u4 ⟨rfl, hq4⟩
            have HQ4 := Lib.hid hq4
            have d7 : (R != R) = false := by simp
            clear hq4 H4
            go_wp2
            go_roundw
            case rel => exact ⟨i + 1, _, by omega, by go_num, HQ4.out⟩
            case measure => simp [intOf]; omega
          · have d6 : (q1 == 0) = false := by simpa using hq
            obtain ⟨R, hRR⟩ : ∃ R, R = decide (wSkip l q2 a < l.length) := ⟨_, rfl⟩
            have H3 := Lib.hid (pw_skip hS HQ2.out q2 hf2)
            rw [← hRR] at H3
            have HRR := Lib.hid hRR
            clear hq hRR
            go_wp2_with fail
            refine H3.out.mono ?_
            rintro e u3 ⟨rfl, hq3⟩
            obtain ⟨pb, x', e1, hx', -, b1, -, -⟩ := (HO1.out.below (HBE.out u3 _ _ hq3)).at i hlt
            obtain rfl := Option.some.inj e1
            obtain rfl := Option.some.inj (HXX.out.symm.trans hx')
            have H4 := Lib.hid (pr_skip hS hq3 q2)
            rw [← HRR.out] at H4
            simp only at b1
            clear hq3 H3 e1 hx'
            go_wp2_with fail
            refine H4.out.mono ?_
            rintro e u4 ⟨rfl, hq4⟩
            have HQ4 := Lib.hid hq4
            have d7 : (R != R) = false := by simp
            clear hq4 H4
            go_wp2
            go_roundw
            case rel => exact ⟨i + 1, _, by omega, by go_num, HQ4.out⟩
            case measure => simp [intOf]; omega
end Go.Proofs.Ytkligdaademakaa
