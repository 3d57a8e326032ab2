/- The law's own change of a vocabulary. -/
import Derived.Test.YtecpihghlelefaaVChg0
import Derived.Deep.DeepCutAuto
namespace Go.Proofs.Ytecpihghlelefaa
open Go.RowKit Go.Maps Go.WideMaps
set_option linter.unusedSimpArgs false

def chV (kd a : Int) (T : Option Addr) (tn tc : Nat) (x y z : Int) : Value := .agg #[.int .i64 kd, .int .i64 a, .slice T tn tc, .int .i64 x, .int .i64 y, .int .i64 z]
set_option maxHeartbeats 2000000 in
set_option maxRecDepth 100000 in
theorem vocabGreat_any (w : World) (A : Option Addr) (n c : Nat) (kd a : Int) (T : Option Addr) (tn tc : Nat) (x y z : Int) (hn : n ≤ 9223372036854775807) (ht : tn ≤ 9223372036854775807) :
    Calls Try.prog 9 #[.slice A n c, chV kd a T tn tc x y z] w fun e w' => e = .returned (.bool (decide (600 < n) || decide (1000 < tn))) ∧ Below w.heap.size w w' := by
  have hb := (Below.refl w.heap.size w).alloc (Nat.le_refl _) (.cells #[.int .i64 kd, .int .i64 a, .slice T tn tc, .int .i64 x, .int .i64 y, .int .i64 z] 27)
  unfold chV
  by_cases h1 : 600 < n
  · have d1 : decide ((600 : Int) < (n : Int)) = true := by simp; omega
    have e1 : (decide (600 < n) || decide (1000 < tn)) = true := by simp [h1]
    rw [e1]
    clear h1 e1
    go_enter Try.func9, Try.ntmps9
    go_wp2
    go_ret
    exact ⟨rfl, hb⟩
  · have d1 : decide ((600 : Int) < (n : Int)) = false := by simp; omega
    by_cases h2 : 1000 < tn
    · have d2 : decide ((1000 : Int) < (tn : Int)) = true := by simp; omega
      have e1 : (decide (600 < n) || decide (1000 < tn)) = true := by simp [h2]
      rw [e1]
      clear h1 h2 e1
      go_enter Try.func9, Try.ntmps9
      go_wp2
      go_ret
      exact ⟨rfl, hb⟩
    · have d2 : decide ((1000 : Int) < (tn : Int)) = false := by simp; omega
      have e1 : (decide (600 < n) || decide (1000 < tn)) = false := by simp; omega
      rw [e1]
      clear h1 h2 e1
      go_enter Try.func9, Try.ntmps9
      go_wp2
      go_ret
      exact ⟨rfl, hb⟩

def ChOut (w : World) (V : Voc) (e : Ending) (w' : World) : Prop :=
  ∃ A B ca cb, e = .returned (vocV A B V.tok.length V.mer.length ca cb) ∧ VocSee w' A B V.tok.length V.mer.length ca cb V ∧ Below w.heap.size w w'
theorem vocab_notB {w : World} {g : Nat} {a b : Value} (h : Blk w g 33 #[a, b]) (h1 : ∀ c, a ≠ byteV c) (h2 : ∀ c, b ≠ byteV c) : ∀ (A : Option Addr) (x : Nm), BytesIn w A x.length x → ∀ ad, A = some ad → 0 < x.length → ad.block ≠ g :=
  fun A x hx => not_bytes h (fun i c => by
    match i with
    | 0 => simpa using h1 c
    | 1 => simpa using h2 c
    | i + 2 => simp) A x hx
theorem slice_notB (A : Option Addr) (n c : Nat) : ∀ u, Value.slice A n c ≠ byteV u := fun u => by simp [byteV]

set_option maxHeartbeats 16000000 in
set_option maxRecDepth 100000 in
theorem vocabChanged_any (w : World) (A : Option Addr) (n c : Nat) (l : List (Int × Int)) (hl : PairsIn w A n l) (hn : n ≤ 1048576) (kd a : Int) (T : Option Addr) (tc : Nat) (tk : Nm) (hT : BytesIn w T tk.length tk) (htc : tk.length ≤ tc) (htl : tk.length ≤ 1000) (x y z : Int) (hm : mgFits ⟨x, y, z⟩) :
    Calls Try.prog 13 #[.slice A n c, chV kd a T tk.length tc x y z] w (ChOut w (changeV (buildAll l).1 kd a tk ⟨x, y, z⟩)) := by
  obtain ⟨i0, hi, hz0, hz1, hz2⟩ := info_parts rowInfo
  obtain ⟨j0, hj0, hy0, hy1, hy2⟩ := info_parts mergeInfo
  obtain ⟨k0, hk0, hx0, hx1, hx2⟩ := info_parts byteInfo
  obtain ⟨V, hV⟩ : ∃ V, V = (buildAll l).1 := ⟨_, rfl⟩
  rw [← hV]
  obtain ⟨Vc, hVc⟩ : ∃ Vc, Vc = changeV V kd a tk ⟨x, y, z⟩ := ⟨_, rfl⟩
  rw [← hVc]
  have HVC := Lib.hid hVc
  have hv5 : V.tok.length ≤ 512 ∧ V.mer.length ≤ 512 := by
    by_cases h0 : (buildAll l).2 = 0
    · have := build_ok l ⟨ones, []⟩ ones_ok h0
      rw [hV]
      exact ⟨this.tl, this.ml⟩
    · have := build_none l ⟨ones, []⟩ h0
      rw [hV, show (buildAll l).1 = ⟨[], []⟩ from this]
      simp
  have HVE := Lib.hid hV
  have HMF := Lib.hid hm
  obtain ⟨m0, m1, m2⟩ := hm
  have b0 := (Below.refl w.heap.size w).alloc (Nat.le_refl _) (.cells #[.int .i64 kd, .int .i64 a, .slice T tk.length tc, .int .i64 x, .int .i64 y, .int .i64 z] 27)
  obtain ⟨W0, hW0⟩ : ∃ W0, W0 = w.alloc (.cells #[.int .i64 kd, .int .i64 a, .slice T tk.length tc, .int .i64 x, .int .i64 y, .int .i64 z] 27) := ⟨_, rfl⟩
  have hc0 : Blk W0 w.heap.size 27 #[.int .i64 kd, .int .i64 a, .slice T tk.length tc, .int .i64 x, .int .i64 y, .int .i64 z] := by rw [hW0]; exact Blk.new _ _ _
  have hs0 : W0.heap.size = w.heap.size + 1 := by rw [hW0]; simp
  rw [← hW0] at b0
  have b1 := (Below.refl W0.heap.size W0).alloc (Nat.le_refl _) (.cells #[.slice none 0 0, .slice none 0 0] 33)
  obtain ⟨W1, hW1⟩ : ∃ W1, W1 = W0.alloc (.cells #[.slice none 0 0, .slice none 0 0] 33) := ⟨_, rfl⟩
  have hr1 : Blk W1 (w.heap.size + 1) 33 #[.slice none 0 0, .slice none 0 0] := by rw [hW1, ← hs0]; exact Blk.new _ _ _
  have hs1 : W1.heap.size = w.heap.size + 2 := by rw [hW1]; simp; omega
  rw [← hW1] at b1
  have hb1 : Below w.heap.size w W1 := b0.trans (b1.mono b0.size)
  have HC1 := Lib.hid (hc0.below b1 hc0.lt)
  have HR1 := Lib.hid hr1
  have HB1 := Lib.hid hb1
  have HL := Lib.hid (hl.below hb1)
  have HS1 := Lib.hid hs1
  rw [hW0] at hW1
  have HW1 := Lib.hid hW1
  have HT := Lib.hid hT
  clear hV hVc hT hl b0 b1 hb1 hc0 hr1 hs0 hs1 hW0 hW1 W0
  unfold chV
  go_enter Try.func13, Try.ntmps13
  go_wp2_with fail
  rw [← HW1.out]
  refine (r5Build_any W1 A n c l HL.out hn).mono ?_
  unfold RVOut
  rintro e w2 ⟨tv, mv, svs0, F0, b0, rfl, hb2, hok, herr⟩
  have hown : ∃ F svs, OwnV w2 F V tv mv svs ∧ ∀ i, F i → w.heap.size + 2 ≤ i := by
    by_cases h0 : (buildAll l).2 = 0
    · obtain ⟨h1, h2⟩ := hok h0
      rw [← HVE.out] at h1
      exact ⟨F0, svs0, h1.ownV, fun i hi => by have := h2 i hi; have := HS1.out; omega⟩
    · obtain ⟨h1, h2⟩ := herr h0
      have h3 := build_none l ⟨ones, []⟩ h0
      rw [HVE.out, show (buildAll l).1 = ⟨[], []⟩ from h3, h1, h2]
      exact ⟨_, [], OwnV.nil _, fun i hi => hi.elim⟩
  obtain ⟨F, svs, hO, hF⟩ := hown
  obtain ⟨At, ct, rfl⟩ := own_slice hO.trow
  obtain ⟨Bm, cm, rfl⟩ := own_slice hO.mrow
  obtain ⟨vn, hvn⟩ : ∃ k, k = V.tok.length := ⟨_, rfl⟩
  obtain ⟨vm, hvm⟩ : ∃ k, k = V.mer.length := ⟨_, rfl⟩
  have HVN := Lib.hid hvn
  have HVM := Lib.hid hvm
  rw [← hvn, ← hvm] at hO hv5
  rw [← hvn, ← hvm]
  have b3 := (Below.refl w2.heap.size w2).alloc (Nat.le_refl _) (.cells #[.slice At vn ct, .slice Bm vm cm] 33)
  obtain ⟨X, hX⟩ : ∃ X, X = w2.alloc (.cells #[.slice At vn ct, .slice Bm vm cm] 33) := ⟨_, rfl⟩
  obtain ⟨vb, hvb⟩ : ∃ vb, vb = w2.heap.size := ⟨_, rfl⟩
  have hv3 : Blk X vb 33 #[.slice At vn ct, .slice Bm vm cm] := by rw [hX, hvb]; exact Blk.new _ _ _
  rw [← hX] at b3
  have hC2 := HC1.out.below hb2 HC1.out.lt
  have hR2 := HR1.out.below hb2 HR1.out.lt
  have hC3 := hC2.below b3 hC2.lt
  have hR3 := hR2.below b3 hR2.lt
  have HNV := Lib.hid (show ¬ F vb from fun h => by have h1 := hO.lt _ h; omega)
  have HNR := Lib.hid (show ¬ F (w.heap.size + 1) from fun h => by have h1 := hF _ h; omega)
  have HNC := Lib.hid (show ¬ F w.heap.size from fun h => by have h1 := hF _ h; omega)
  have HVB := Lib.hid (show w.heap.size + 2 ≤ vb from by have h1 := hR2.lt; omega)
  have HO := Lib.hid (hO.kept b3)
  have HF := Lib.hid (show ∀ i, F i → w.heap.size ≤ i from fun i hi => Nat.le_trans (Nat.le_add_right _ _) (hF i hi))
  have HC := Lib.hid hC3
  have HR := Lib.hid hR3
  have HV := Lib.hid hv3
  have hbX := below_then (below_then HB1.out hb2 HB1.out.size) b3 (below_then HB1.out hb2 HB1.out.size).size
  have HB := Lib.hid hbX
  have HX := Lib.hid hX
  have HVBE := Lib.hid hvb
  have HTI := Lib.hid (show TokIn X F (.slice T tk.length tc) tk from ⟨T, tc, rfl, htc, HT.out.below hbX, fun ad e h0 hf => by have h1 := HT.out.2.2 ad e h0; have h2 := hF _ hf; omega⟩)
  have e0 := hC3.cell 0
  have e1 := hC3.cell 1
  have e2 := hC3.cell 2
  have e3 := hC3.cell 3
  have e4 := hC3.cell 4
  have e5 := hC3.cell 5
  have v0 := hv3.cell 0
  have v1 := hv3.cell 1
  have f0 := hv3.frozen 0
  have f1 := hv3.frozen 1
  have r0 := hR3.cell 0
  have r1 := hR3.cell 1
  have g0 := hR3.frozen 0
  have g1 := hR3.frozen 1
  simp only [List.getElem?_toArray, List.getElem?_cons_zero, List.getElem?_cons_succ] at e0 e1 e2 e3 e4 e5 v0 v1 r0 r1
  obtain ⟨hvn5, hvm5⟩ := hv5
  clear hok herr hb2 hO hF hvn hvm b3 hX hvb hv3 hC2 hR2 hC3 hR3 hbX HC1 HR1 HB1 HT HL HS1 HW1
  go_upto_region 2 with fail
  rw [← HX.out, ← HVBE.out]
  by_cases h0 : kd = 0
  · subst h0
    by_cases hr : 0 ≤ a ∧ a < (vn : Int)
    · obtain ⟨k, rfl⟩ : ∃ k : Nat, a = k := ⟨a.toNat, by omega⟩
      have ha : (0 : Int) ≤ (k : Int) := hr.1
      have hb : (k : Int) < (vn : Int) := hr.2
      have hkn : k < vn := by omega
      clear hr
      have hAt : ∃ g, At = some ⟨g, 0, none⟩ := by
        rcases HO.out.trow.2 with ⟨h1, h2⟩ | ⟨g, _, _, h1, _⟩
        · injection h1 with _ h3 _
          omega
        · injection h1 with h3 _ _
          exact ⟨g, h3⟩
      obtain ⟨tg, rfl⟩ := hAt
      go_wp2_with fail
      refine wp_region_held_drew (S := fun w' => w'.cell? ⟨w.heap.size, 1, none⟩ = some (.int .i64 k) ∧ w'.cell? ⟨w.heap.size, 2, none⟩ = some (.slice T tk.length tc) ∧ w'.cell? ⟨vb, 0, none⟩ = some (.slice (some ⟨tg, 0, none⟩) vn ct)) (by kernel_rfl) ⟨e1, e2, v0⟩ (fun hHeld => ?_)
      obtain ⟨u0, hu0⟩ : ∃ z, z = X.drew := ⟨_, rfl⟩
      rw [← hu0] at hHeld ⊢
      have hb0 : Below X.heap.size X u0 := by rw [hu0]; exact (Below.refl _ X).drew
      have HO0 := Lib.hid (HO.out.kept hb0)
      have HC0 := Lib.hid (HC.out.below hb0 HC.out.lt)
      have HR0 := Lib.hid (HR.out.below hb0 HR.out.lt)
      have HV0 := Lib.hid (HV.out.below hb0 HV.out.lt)
      have HB0 := Lib.hid (below_then HB.out hb0 HB.out.size)
      have hTI := HTI.out.mono (G := fun _ => False) (Kept.below hb0) (fun _ => False.elim) (fun _ hf => .inl hf)
      obtain ⟨T1, tc1, q1, _, hTB, _⟩ := hTI
      cases q1
      have HTB := Lib.hid hTB
      clear hu0 hb0 hTB
      refine wpAnyH_take (i := 0) (oi := ?ois10) (v := ?vs10) ?his10 (by kernel_rfl) (by kernel_rfl) (by kernel_rfl) ?hQs10 (Or.inl ⟨?hws10, ?hys10⟩) (by assumption) ?rests10
      case his10 => (first | (simp only [List.getElem?_toArray, List.getElem?_cons_zero, List.getElem?_cons_succ]; rfl) | rfl)
      case hQs10 => exact fun _ _ _ h => h
      case hws10 => rfl
      case hys10 => ((intro w hSw; go_simp); first | done | with_reducible rfl)
      try simp only [Act.put, List.setIfInBounds_toArray, List.set_cons_zero, List.set_cons_succ]
      refine wpAnyH_take (i := 2) (oi := ?ois22) (v := ?vs22) ?his22 (by kernel_rfl) (by kernel_rfl) (by kernel_rfl) ?hQs22 (Or.inl ⟨?hws22, ?hys22⟩) (by assumption) ?rests22
      case his22 => (first | (simp only [List.getElem?_toArray, List.getElem?_cons_zero, List.getElem?_cons_succ]; rfl) | rfl)
      case hQs22 => exact fun _ _ _ h => h
      case hws22 => rfl
      case hys22 => ((intro w hSw; go_simp); first | done | with_reducible rfl)
      try simp only [Act.put, List.setIfInBounds_toArray, List.set_cons_zero, List.set_cons_succ]
      refine wpAnyH_take (i := 5) (oi := ?ois35) (v := ?vs35) ?his35 (by kernel_rfl) (by kernel_rfl) (by kernel_rfl) ?hQs35 (Or.inl ⟨?hws35, ?hys35⟩) (by assumption) ?rests35
      case his35 => (first | (simp only [List.getElem?_toArray, List.getElem?_cons_zero, List.getElem?_cons_succ]; rfl) | rfl)
      case hQs35 => exact fun _ _ _ h => h
      case hws35 => rfl
      case hys35 => ((intro w hSw; go_simp); first | done | with_reducible rfl)
      try simp only [Act.put, List.setIfInBounds_toArray, List.set_cons_zero, List.set_cons_succ]
      refine wpAnyH_take (i := 1) (oi := ?ois41) (v := ?vs41) ?his41 (by kernel_rfl) (by kernel_rfl) (by kernel_rfl) ?hQs41 (Or.inl ⟨?hws41, ?hys41⟩) (by assumption) ?rests41
      case his41 => (first | (simp only [List.getElem?_toArray, List.getElem?_cons_zero, List.getElem?_cons_succ]; rfl) | rfl)
      case hQs41 => exact fun _ _ _ h => h
      case hws41 => rfl
      case hys41 => ((intro w hSw; go_simp); first | done | with_reducible rfl)
      try simp only [Act.put, List.setIfInBounds_toArray, List.set_cons_zero, List.set_cons_succ]
      refine wpAnyH_take (i := 3) (oi := ?ois53) (v := ?vs53) ?his53 (by kernel_rfl) (by kernel_rfl) (by kernel_rfl) ?hQs53 (Or.inl ⟨?hws53, ?hys53⟩) (by assumption) ?rests53
      case his53 => (first | (simp only [List.getElem?_toArray, List.getElem?_cons_zero, List.getElem?_cons_succ]; rfl) | rfl)
      case hQs53 => exact fun _ _ _ h => h
      case hws53 => rfl
      case hys53 => ((intro w hSw; go_simp); first | done | with_reducible rfl)
      try simp only [Act.put, List.setIfInBounds_toArray, List.set_cons_zero, List.set_cons_succ]
      refine wpAnyH_take (i := 6) (oi := ?ois66) (v := ?vs66) ?his66 (by kernel_rfl) (by kernel_rfl) (by kernel_rfl) ?hQs66 (Or.inl ⟨?hws66, ?hys66⟩) (by assumption) ?rests66
      case his66 => (first | (simp only [List.getElem?_toArray, List.getElem?_cons_zero, List.getElem?_cons_succ]; rfl) | rfl)
      case hQs66 => exact fun _ _ _ h => h
      case hws66 => rfl
      case hys66 => ((intro w hSw; go_simp); first | done | with_reducible rfl)
      try simp only [Act.put, List.setIfInBounds_toArray, List.set_cons_zero, List.set_cons_succ]
      refine wpAnyH_ready (rs := [4]) (by kernel_rfl) (by simp) ?_
      refine AllReadyH.cons (o := ?os7) ?hs7 ?ss7 AllReadyH.nil
      case hs7 => (simp only [List.getElem?_toArray, List.getElem?_cons_zero, List.getElem?_cons_succ]; rfl)
      case ss7 =>
        intro K hK
        go_simp
        obtain ⟨u1, hu1⟩ : ∃ z, z = u0.alloc (.cells #[] 5) := ⟨_, rfl⟩
        have hb1 : Below u0.heap.size u0 u1 := by rw [hu1]; exact (Below.refl _ u0).alloc (Nat.le_refl _) _
        have HE1 : Hid (World.ownsRow u1 u0.heap.size 5 1 (.slice (some ⟨u0.heap.size, 0, none⟩) 0 0) 0 []) := Lib.hid (by rw [hu1]; exact World.ownsRow_made u0 #[] 0 (Nat.le_refl _) (Nat.zero_le _) rfl)
        rw [← hu1]
        have HC1 := Lib.hid (HC0.out.below hb1 HC0.out.lt)
        have HV1 := Lib.hid (HV0.out.below hb1 HV0.out.lt)
        have HB1 := Lib.hid hb1
        clear hu1 hb1
        refine hK.out _ _ ⟨by simpa using HC1.out.cell 1, by simpa using HC1.out.cell 2, by simpa using HV1.out.cell 0⟩ (fun hs8 => ?_)
        clear hK K
        try simp only [Act.put, List.setIfInBounds_toArray, List.set_cons_zero, List.set_cons_succ]
        refine wpAnyH_ready (rs := [7]) (by kernel_rfl) (by simp) ?_
        refine AllReadyH.cons (o := ?os9) ?hs9 ?ss9 AllReadyH.nil
        case hs9 => (simp only [List.getElem?_toArray, List.getElem?_cons_zero, List.getElem?_cons_succ]; rfl)
        case ss9 =>
          intro K hK
          refine step_append_srcN _ rfl (.tmp 30) (.tmp 32) 23 rfl u0.heap.size 5 k0 (.int .u8 0) 1 1 Try.underlying23 hk0 hx0 hx1 hx2 rfl (by omega) _ 0 [] rfl HE1.out T tk.length tc (tk.map byteV) rfl (SrcN.below ⟨by simp, HTB.out.2.1.cells, HTB.out.2.1.nil⟩ HB1.out) (u8_one _) (by unfold maxLen; omega) (by omega) HB1.out.size ?_
          intro v2 u2 hw2 hg2 hl2
          obtain ⟨A2, c2, rfl⟩ := own_slice hw2
          rw [Nat.zero_add, List.nil_append] at hw2
          rw [Nat.zero_add]
          have hb2 := HB1.out.grown hg2 HB1.out.size (fun k e => (HE1.out.lt k e).1)
          have HC2 := Lib.hid (HC0.out.below hb2 HC0.out.lt)
          have HV2 := Lib.hid (HV0.out.below hb2 HV0.out.lt)
          have HB2 := Lib.hid hb2
          have HE2 := Lib.hid hw2
          clear hw2 hg2 hl2 hb2
          refine hK.out _ _ ⟨by simpa using HC2.out.cell 1, by simpa using HC2.out.cell 2, by simpa using HV2.out.cell 0⟩ (fun hs10 => ?_)
          clear hK K
          try simp only [Act.put, List.setIfInBounds_toArray, List.set_cons_zero, List.set_cons_succ]
          refine wpAnyH_take (i := 8) (oi := ?ois118) (v := ?vs118) ?his118 (by kernel_rfl) (by kernel_rfl) (by kernel_rfl) ?hQs118 (Or.inl ⟨?hws118, ?hys118⟩) (by assumption) ?rests118
          case his118 => (first | (simp only [List.getElem?_toArray, List.getElem?_cons_zero, List.getElem?_cons_succ]; rfl) | rfl)
          case hQs118 => exact fun _ _ _ h => h
          case hws118 => rfl
          case hys118 => ((intro w hSw; go_simp); first | done | with_reducible rfl)
          try simp only [Act.put, List.setIfInBounds_toArray, List.set_cons_zero, List.set_cons_succ]
          refine wpAnyH_ready (rs := [9]) (by kernel_rfl) (by simp) ?_
          refine AllReadyH.cons (o := ?os12) ?hs12 ?ss12 AllReadyH.nil
          case hs12 => (simp only [List.getElem?_toArray, List.getElem?_cons_zero, List.getElem?_cons_succ]; rfl)
          case ss12 =>
            intro K hK
            have ho2 := HO0.out.kept HB2.out
            have hlt0 : k < vn * 1 := by omega
            obtain ⟨A3, c3, hv3, htk⟩ := text_tok' (F := F) (fun i hi => HO0.out.lt i hi) HE2.out (by unfold maxLen; omega)
            cases hv3
            have htr := ho2.trow
            rw [← HVN.out] at htr
            have hcur := htr.cellAt k hlt0
            have hsl : svs.length = vn := by have h1 := ho2.trow.1; have h2 := HVN.out; simp at h1; omega
            rw [List.getElem?_eq_getElem (by omega)] at hcur
            have hfr := htr.frozenAt k
            try rw [addr_add]
            go_simp
            have ho3 := (show OwnV u2 F V (.slice (some ⟨tg, 0, none⟩) V.tok.length ct) (.slice Bm vm cm) svs from by rw [← HVN.out]; exact ho2).tokSet (k := k) htk
            have HO3 := Lib.hid ho3.1
            have hk3 := ho3.2
            have HC3 := Lib.hid (HC2.out.kept hk3 HNC.out)
            have HV3 := Lib.hid (HV2.out.kept hk3 HNV.out)
            have HR3 := Lib.hid ((HR0.out.below HB2.out HR0.out.lt).kept hk3 HNR.out)
            have HB3 := Lib.hid ((HB0.out.trans (HB2.out.mono HB0.out.size)).trans (Kept.toBelow (B := w.heap.size) hk3 (Nat.le_trans HB0.out.size HB2.out.size) HF.out))
            clear ho2 htr hcur hsl hfr ho3 hk3 htk hlt0
            refine hK.out _ _ ⟨by simpa using HC3.out.cell 1, by simpa using HC3.out.cell 2, by simpa using HV3.out.cell 0⟩ (fun hs13 => ?_)
            clear hK K
            try simp only [Act.put, List.setIfInBounds_toArray, List.set_cons_zero, List.set_cons_succ]
            refine wpAnyH_done (by kernel_rfl) ?_ _
            have E0 := HC3.out.cell 0
            have E1 := HC3.out.cell 1
            have V0 := HV3.out.cell 0
            have V1 := HV3.out.cell 1
            have R0 := HR3.out.cell 0
            have R1 := HR3.out.cell 1
            have G0 := HR3.out.frozen 0
            have G1 := HR3.out.frozen 1
            simp only [List.getElem?_toArray, List.getElem?_cons_zero, List.getElem?_cons_succ] at E0 E1 V0 V1 R0 R1
            clear e0 e1 e2 e3 e4 e5 v0 v1 f0 f1 r0 r1 g0 g1
            go_wp2
            have HO4 : Hid (OwnV (u2.setCell ⟨tg, k, none⟩ (.slice A2 tk.length c2)) F ⟨V.tok.set k tk, V.mer⟩ (.slice (some ⟨tg, 0, none⟩) vn ct) (.slice Bm vm cm) (svs.set k (.slice A2 tk.length c2))) := Lib.hid (by have h1 := HO3.out; rw [← HVN.out] at h1; exact h1)
            have hk1 : Kept (fun i => i = w.heap.size + 1) (u2.setCell ⟨tg, k, none⟩ (.slice A2 tk.length c2)) ((u2.setCell ⟨tg, k, none⟩ (.slice A2 tk.length c2)).setCell ⟨w.heap.size + 1, 0, none⟩ (.slice (some ⟨tg, 0, none⟩) vn ct)) := (Kept.refl (fun i => i = w.heap.size + 1) (u2.setCell ⟨tg, k, none⟩ (.slice A2 tk.length c2))).setCell (p := ⟨w.heap.size + 1, 0, none⟩) (.inl rfl) _
            have hk2 : Kept (fun i => i = w.heap.size + 1) (u2.setCell ⟨tg, k, none⟩ (.slice A2 tk.length c2)) (((u2.setCell ⟨tg, k, none⟩ (.slice A2 tk.length c2)).setCell ⟨w.heap.size + 1, 0, none⟩ (.slice (some ⟨tg, 0, none⟩) vn ct)).setCell ⟨w.heap.size + 1, 1, none⟩ (.slice Bm vm cm)) := hk1.setCell (p := ⟨w.heap.size + 1, 1, none⟩) (.inl rfl) _
            have h4 := HO4.out.far hk2 HNR.out (vocab_notB HR3.out (slice_notB _ _ _) (slice_notB _ _ _))
            obtain ⟨A1, B1, q1, q2, s1, s2, s3⟩ := h4.see (by have h1 := HVN.out; first | omega | (simp only [List.length_append, List.length_singleton, List.length_set]; omega)) (by have h1 := HVM.out; first | omega | (simp only [List.length_append, List.length_singleton, List.length_set]; omega))
            have hVe : Vc = ⟨V.tok.set k tk, V.mer⟩ := by rw [HVC.out]; unfold changeV; rw [if_pos rfl, if_pos ⟨by omega, by have := HVN.out; omega⟩, Int.toNat_natCast]
            refine bodyPost_ret (results_cell_row rfl _ _ (w.heap.size + 1) 33 #[.slice (some ⟨tg, 0, none⟩) vn ct, .slice Bm vm cm] (0, 0) _ rfl ?_ Try.underlying33 rfl vocabCells) rfl ?_
            · have := (HR3.out.set_ 0 (.slice (some ⟨tg, 0, none⟩) vn ct)).set_ 1 (.slice Bm vm cm)
              simpa [Blk] using this
            · have hB9 := ((HB3.out).setCell (p := ⟨w.heap.size + 1, 0, none⟩) (Nat.le_succ _) (.slice (some ⟨tg, 0, none⟩) vn ct)).setCell (p := ⟨w.heap.size + 1, 1, none⟩) (Nat.le_succ _) (.slice Bm vm cm)
              rw [hVe]
              injection s1 with s11 s12 s13
              injection s2 with s21 s22 s23
              subst s11 s13 s21 s23
              refine ⟨_, _, _, _, ?_, s3, hB9⟩
              unfold vocV
              rw [← s12, ← s22]
    · have HNR0 := Lib.hid hr
      rcases (show a < 0 ∨ (0 ≤ a ∧ ((vn : Nat) : Int) ≤ a) from by omega) with ha | ⟨ha, hb⟩
      · have ha' : ¬ (0 ≤ a) := by omega
        have b9 := (Below.refl X.heap.size X).alloc (Nat.le_refl _) (.cells #[.slice T tk.length tc] 23)
        obtain ⟨u9, hu9⟩ : ∃ z, z = X.alloc (.cells #[.slice T tk.length tc] 23) := ⟨_, rfl⟩
        have hn9 : Blk u9 X.heap.size 23 #[.slice T tk.length tc] := by rw [hu9]; exact Blk.new _ _ _
        rw [← hu9] at b9
        have ho9 := HO.out.kept b9
        have hr9 := ho9.trow
        rw [← HVN.out] at hr9
        have HT9 := Lib.hid (HTI.out.mono (G := fun _ => False) (Kept.below b9) (fun _ => False.elim) (fun _ hf => .inl hf))
        have HO9 := Lib.hid ho9
        have HR9 := Lib.hid hr9
        have HN9 := Lib.hid hn9
        have HU9 := Lib.hid hu9
        have HV9 := Lib.hid (HV.out.below b9 HV.out.lt)
        have HNB9 := Lib.hid (own_blk_ne hr9 HV9.out (by decide))
        have HC9 := Lib.hid (HC.out.below b9 HC.out.lt)
        have HRR9 := Lib.hid (HR.out.below b9 HR.out.lt)
        have HB9 := Lib.hid (below_then HB.out b9 HB.out.size)
        have HS9 := Lib.hid (show vb < X.heap.size ∧ X.heap.size ≤ u9.heap.size from ⟨HV.out.lt, b9.size⟩)
        clear b9 hu9 hn9 ho9 hr9
        go_wp2_with (at_builtin; rw [← HU9.out]; refine wpList_append_own_at _ rfl _ _ 30 rfl 0 23 i0 (.slice none 0 0) 1 24 Try.underlying30 hi hz0 hz1 hz2 rfl (by decide) _ vn svs rfl HR9.out ⟨X.heap.size, 0, none⟩ 1 1 [.slice T tk.length tc] rfl rfl (fun j u hu => by rw [addr_add, HN9.out.cell]; simpa using hu) (by simp [Value.oneCell']) (by unfold maxLen; omega) (by omega) (Nat.zero_le _) ?_; intro v' w5 hown' hg5 hnil hloc; clear hnil; obtain ⟨A5, c5, hv⟩ := own_slice hown'; rw [hv] at hown' hloc ⊢; clear hv; have hv5 := HV9.out.grown hg5 (fun e => HNB9.out e.symm); have z5 := hv5.frozen 0; have y5 := hv5.cell 0; simp only [List.getElem?_toArray, List.getElem?_cons_zero] at y5; have HV5 := Lib.hid hv5; have h5 := HO9.out.tokApp (tv' := .slice A5 (vn + 1) c5) (sv := .slice T tk.length tc) (x := tk) (w2 := w5) HT9.out (by rw [← HVN.out]; exact hown') hg5 hloc; have H5 := Lib.hid h5.1; have k5 := h5.2; have kX := (Kept.refl (fun i => i = vb) w5).setCell (p := ⟨vb, 0, none⟩) (.inl rfl) (.slice A5 (vn + 1) c5); have hnO := (show ¬ Own F u9 w5 vb from fun hf => by rcases hf with hf | hf; exact HNV.out hf; have h1 := hf.1; have h2 := HS9.out; omega); have hnR := (show ¬ Own F u9 w5 (w.heap.size + 1) from fun hf => by rcases hf with hf | hf; exact HNR.out hf; have h1 := hf.1; have h2 := HS9.out; have h3 := HVB.out; omega); have HNR6 := Lib.hid hnR; have HO6 := Lib.hid (H5.out.far kX hnO (vocab_notB HV5.out (slice_notB _ _ _) (slice_notB _ _ _))); have hc6 := (HC9.out.kept k5 HNC.out).kept kX (fun e => by have h3 := HVB.out; omega); have hr6 := (HRR9.out.kept k5 HNR.out).kept kX (fun e => by have h3 := HVB.out; omega); have HB6 := Lib.hid (((HB9.out.trans (Kept.toBelow (B := w.heap.size) k5 HB9.out.size HF.out)).setCell (p := ⟨vb, 0, none⟩) (by have h3 := HVB.out; show w.heap.size ≤ vb; omega) (.slice A5 (vn + 1) c5))); have hv6 := HV5.out.set_ 0 (.slice A5 (vn + 1) c5); have HV6 : Hid (Blk (w5.setCell ⟨vb, 0, none⟩ (.slice A5 (vn + 1) c5)) vb 33 #[.slice A5 (vn + 1) c5, .slice Bm vm cm]) := Lib.hid (by simpa using hv6); have HR6 := Lib.hid hr6; have E0 := hc6.cell 0; have E1 := hc6.cell 1; have V0 := HV6.out.cell 0; have V1 := HV6.out.cell 1; have R0 := hr6.cell 0; have R1 := hr6.cell 1; have G0 := hr6.frozen 0; have G1 := hr6.frozen 1; simp only [List.getElem?_toArray, List.getElem?_cons_zero, List.getElem?_cons_succ] at E0 E1 V0 V1 R0 R1; clear hown' hg5 hloc hv5 h5 k5 kX hnO hnR hc6 hr6 hv6)
        have hk1 : Kept (fun i => i = w.heap.size + 1) (w5.setCell ⟨vb, 0, none⟩ (.slice A5 (vn + 1) c5)) ((w5.setCell ⟨vb, 0, none⟩ (.slice A5 (vn + 1) c5)).setCell ⟨w.heap.size + 1, 0, none⟩ (.slice A5 (vn + 1) c5)) := (Kept.refl (fun i => i = w.heap.size + 1) (w5.setCell ⟨vb, 0, none⟩ (.slice A5 (vn + 1) c5))).setCell (p := ⟨w.heap.size + 1, 0, none⟩) (.inl rfl) _
        have hk2 : Kept (fun i => i = w.heap.size + 1) (w5.setCell ⟨vb, 0, none⟩ (.slice A5 (vn + 1) c5)) (((w5.setCell ⟨vb, 0, none⟩ (.slice A5 (vn + 1) c5)).setCell ⟨w.heap.size + 1, 0, none⟩ (.slice A5 (vn + 1) c5)).setCell ⟨w.heap.size + 1, 1, none⟩ (.slice Bm vm cm)) := hk1.setCell (p := ⟨w.heap.size + 1, 1, none⟩) (.inl rfl) _
        have h4 := HO6.out.far hk2 HNR6.out (vocab_notB HR6.out (slice_notB _ _ _) (slice_notB _ _ _))
        obtain ⟨A1, B1, q1, q2, s1, s2, s3⟩ := h4.see (by have h1 := HVN.out; first | omega | (simp only [List.length_append, List.length_singleton, List.length_set]; omega)) (by have h1 := HVM.out; first | omega | (simp only [List.length_append, List.length_singleton, List.length_set]; omega))
        have hVe : Vc = ⟨V.tok ++ [tk], V.mer⟩ := by rw [HVC.out]; unfold changeV; rw [if_pos rfl, if_neg (by rw [← HVN.out]; exact HNR0.out)]
        refine bodyPost_ret (results_cell_row rfl _ _ (w.heap.size + 1) 33 #[.slice A5 (vn + 1) c5, .slice Bm vm cm] (0, 0) _ rfl ?_ Try.underlying33 rfl vocabCells) rfl ?_
        · have := (HR6.out.set_ 0 (.slice A5 (vn + 1) c5)).set_ 1 (.slice Bm vm cm)
          simpa [Blk] using this
        · have hB9 := ((HB6.out).setCell (p := ⟨w.heap.size + 1, 0, none⟩) (Nat.le_succ _) (.slice A5 (vn + 1) c5)).setCell (p := ⟨w.heap.size + 1, 1, none⟩) (Nat.le_succ _) (.slice Bm vm cm)
          rw [hVe]
          injection s1 with s11 s12 s13
          injection s2 with s21 s22 s23
          subst s11 s13 s21 s23
          refine ⟨_, _, _, _, ?_, s3, hB9⟩
          unfold vocV
          rw [← s12, ← s22]
      · have hb' : ¬ (a < ((vn : Nat) : Int)) := by omega
        have b9 := (Below.refl X.heap.size X).alloc (Nat.le_refl _) (.cells #[.slice T tk.length tc] 23)
        obtain ⟨u9, hu9⟩ : ∃ z, z = X.alloc (.cells #[.slice T tk.length tc] 23) := ⟨_, rfl⟩
        have hn9 : Blk u9 X.heap.size 23 #[.slice T tk.length tc] := by rw [hu9]; exact Blk.new _ _ _
        rw [← hu9] at b9
        have ho9 := HO.out.kept b9
        have hr9 := ho9.trow
        rw [← HVN.out] at hr9
        have HT9 := Lib.hid (HTI.out.mono (G := fun _ => False) (Kept.below b9) (fun _ => False.elim) (fun _ hf => .inl hf))
        have HO9 := Lib.hid ho9
        have HR9 := Lib.hid hr9
        have HN9 := Lib.hid hn9
        have HU9 := Lib.hid hu9
        have HV9 := Lib.hid (HV.out.below b9 HV.out.lt)
        have HNB9 := Lib.hid (own_blk_ne hr9 HV9.out (by decide))
        have HC9 := Lib.hid (HC.out.below b9 HC.out.lt)
        have HRR9 := Lib.hid (HR.out.below b9 HR.out.lt)
        have HB9 := Lib.hid (below_then HB.out b9 HB.out.size)
        have HS9 := Lib.hid (show vb < X.heap.size ∧ X.heap.size ≤ u9.heap.size from ⟨HV.out.lt, b9.size⟩)
        clear b9 hu9 hn9 ho9 hr9
        go_wp2_with (at_builtin; rw [← HU9.out]; refine wpList_append_own_at _ rfl _ _ 30 rfl 0 23 i0 (.slice none 0 0) 1 24 Try.underlying30 hi hz0 hz1 hz2 rfl (by decide) _ vn svs rfl HR9.out ⟨X.heap.size, 0, none⟩ 1 1 [.slice T tk.length tc] rfl rfl (fun j u hu => by rw [addr_add, HN9.out.cell]; simpa using hu) (by simp [Value.oneCell']) (by unfold maxLen; omega) (by omega) (Nat.zero_le _) ?_; intro v' w5 hown' hg5 hnil hloc; clear hnil; obtain ⟨A5, c5, hv⟩ := own_slice hown'; rw [hv] at hown' hloc ⊢; clear hv; have hv5 := HV9.out.grown hg5 (fun e => HNB9.out e.symm); have z5 := hv5.frozen 0; have y5 := hv5.cell 0; simp only [List.getElem?_toArray, List.getElem?_cons_zero] at y5; have HV5 := Lib.hid hv5; have h5 := HO9.out.tokApp (tv' := .slice A5 (vn + 1) c5) (sv := .slice T tk.length tc) (x := tk) (w2 := w5) HT9.out (by rw [← HVN.out]; exact hown') hg5 hloc; have H5 := Lib.hid h5.1; have k5 := h5.2; have kX := (Kept.refl (fun i => i = vb) w5).setCell (p := ⟨vb, 0, none⟩) (.inl rfl) (.slice A5 (vn + 1) c5); have hnO := (show ¬ Own F u9 w5 vb from fun hf => by rcases hf with hf | hf; exact HNV.out hf; have h1 := hf.1; have h2 := HS9.out; omega); have hnR := (show ¬ Own F u9 w5 (w.heap.size + 1) from fun hf => by rcases hf with hf | hf; exact HNR.out hf; have h1 := hf.1; have h2 := HS9.out; have h3 := HVB.out; omega); have HNR6 := Lib.hid hnR; have HO6 := Lib.hid (H5.out.far kX hnO (vocab_notB HV5.out (slice_notB _ _ _) (slice_notB _ _ _))); have hc6 := (HC9.out.kept k5 HNC.out).kept kX (fun e => by have h3 := HVB.out; omega); have hr6 := (HRR9.out.kept k5 HNR.out).kept kX (fun e => by have h3 := HVB.out; omega); have HB6 := Lib.hid (((HB9.out.trans (Kept.toBelow (B := w.heap.size) k5 HB9.out.size HF.out)).setCell (p := ⟨vb, 0, none⟩) (by have h3 := HVB.out; show w.heap.size ≤ vb; omega) (.slice A5 (vn + 1) c5))); have hv6 := HV5.out.set_ 0 (.slice A5 (vn + 1) c5); have HV6 : Hid (Blk (w5.setCell ⟨vb, 0, none⟩ (.slice A5 (vn + 1) c5)) vb 33 #[.slice A5 (vn + 1) c5, .slice Bm vm cm]) := Lib.hid (by simpa using hv6); have HR6 := Lib.hid hr6; have E0 := hc6.cell 0; have E1 := hc6.cell 1; have V0 := HV6.out.cell 0; have V1 := HV6.out.cell 1; have R0 := hr6.cell 0; have R1 := hr6.cell 1; have G0 := hr6.frozen 0; have G1 := hr6.frozen 1; simp only [List.getElem?_toArray, List.getElem?_cons_zero, List.getElem?_cons_succ] at E0 E1 V0 V1 R0 R1; clear hown' hg5 hloc hv5 h5 k5 kX hnO hnR hc6 hr6 hv6)
        have hk1 : Kept (fun i => i = w.heap.size + 1) (w5.setCell ⟨vb, 0, none⟩ (.slice A5 (vn + 1) c5)) ((w5.setCell ⟨vb, 0, none⟩ (.slice A5 (vn + 1) c5)).setCell ⟨w.heap.size + 1, 0, none⟩ (.slice A5 (vn + 1) c5)) := (Kept.refl (fun i => i = w.heap.size + 1) (w5.setCell ⟨vb, 0, none⟩ (.slice A5 (vn + 1) c5))).setCell (p := ⟨w.heap.size + 1, 0, none⟩) (.inl rfl) _
        have hk2 : Kept (fun i => i = w.heap.size + 1) (w5.setCell ⟨vb, 0, none⟩ (.slice A5 (vn + 1) c5)) (((w5.setCell ⟨vb, 0, none⟩ (.slice A5 (vn + 1) c5)).setCell ⟨w.heap.size + 1, 0, none⟩ (.slice A5 (vn + 1) c5)).setCell ⟨w.heap.size + 1, 1, none⟩ (.slice Bm vm cm)) := hk1.setCell (p := ⟨w.heap.size + 1, 1, none⟩) (.inl rfl) _
        have h4 := HO6.out.far hk2 HNR6.out (vocab_notB HR6.out (slice_notB _ _ _) (slice_notB _ _ _))
        obtain ⟨A1, B1, q1, q2, s1, s2, s3⟩ := h4.see (by have h1 := HVN.out; first | omega | (simp only [List.length_append, List.length_singleton, List.length_set]; omega)) (by have h1 := HVM.out; first | omega | (simp only [List.length_append, List.length_singleton, List.length_set]; omega))
        have hVe : Vc = ⟨V.tok ++ [tk], V.mer⟩ := by rw [HVC.out]; unfold changeV; rw [if_pos rfl, if_neg (by rw [← HVN.out]; exact HNR0.out)]
        refine bodyPost_ret (results_cell_row rfl _ _ (w.heap.size + 1) 33 #[.slice A5 (vn + 1) c5, .slice Bm vm cm] (0, 0) _ rfl ?_ Try.underlying33 rfl vocabCells) rfl ?_
        · have := (HR6.out.set_ 0 (.slice A5 (vn + 1) c5)).set_ 1 (.slice Bm vm cm)
          simpa [Blk] using this
        · have hB9 := ((HB6.out).setCell (p := ⟨w.heap.size + 1, 0, none⟩) (Nat.le_succ _) (.slice A5 (vn + 1) c5)).setCell (p := ⟨w.heap.size + 1, 1, none⟩) (Nat.le_succ _) (.slice Bm vm cm)
          rw [hVe]
          injection s1 with s11 s12 s13
          injection s2 with s21 s22 s23
          subst s11 s13 s21 s23
          refine ⟨_, _, _, _, ?_, s3, hB9⟩
          unfold vocV
          rw [← s12, ← s22]
  by_cases h1 : kd = 1
  · subst h1
    by_cases hr : 0 ≤ a ∧ a < (vm : Int)
    · obtain ⟨k, rfl⟩ : ∃ k : Nat, a = k := ⟨a.toNat, by omega⟩
      have ha : (0 : Int) ≤ (k : Int) := hr.1
      have hb : (k : Int) < (vm : Int) := hr.2
      have hkn : k < vm := by omega
      clear hr
      have hAt : ∃ g, Bm = some ⟨g, 0, none⟩ := by
        rcases HO.out.mrow.2 with ⟨h1, h2⟩ | ⟨g, _, _, h1, _⟩
        · injection h1 with _ h3 _
          omega
        · injection h1 with h3 _ _
          exact ⟨g, h3⟩
      obtain ⟨tg, rfl⟩ := hAt
      have hmr := HO.out.mrow
      rw [← HVM.out] at hmr
      have hln : (V.mer.flatMap mgCells).length = vm * 3 := by have h1 := hmr.1; simpa using h1
      have q0 := hmr.cellAt (k * 3) (by omega)
      have q1 := hmr.cellAt (k * 3 + 1) (by omega)
      have q2 := hmr.cellAt (k * 3 + 2) (by omega)
      rw [List.getElem?_eq_getElem (by omega)] at q0 q1 q2
      have p0 := hmr.frozenAt (k * 3)
      have p1 := hmr.frozenAt (k * 3 + 1)
      have p2 := hmr.frozenAt (k * 3 + 2)
      have had : (⟨tg, 0, none⟩ : Addr).add (k * 3) = ⟨tg, k * 3, none⟩ := addr_add _ _
      obtain ⟨X3, hX3⟩ : ∃ z1, z1 = ((X.setCell ⟨tg, k * 3, none⟩ (.int .i64 x)).setCell ⟨tg, k * 3 + 1, none⟩ (.int .i64 y)).setCell ⟨tg, k * 3 + 2, none⟩ (.int .i64 z) := ⟨_, rfl⟩
      have ho3 := (show OwnV X F V (.slice At vn ct) (.slice (some ⟨tg, 0, none⟩) V.mer.length cm) svs from by rw [← HVM.out]; exact HO.out).merSet (m := ⟨x, y, z⟩) (k := k) HMF.out (by rw [← HVM.out]; exact hkn) hX3
      have HO3 := Lib.hid ho3.1
      have hk3 := ho3.2
      have HC3 := Lib.hid (HC.out.kept hk3 HNC.out)
      have HV3 := Lib.hid (HV.out.kept hk3 HNV.out)
      have HR3 := Lib.hid (HR.out.kept hk3 HNR.out)
      have HB3 := Lib.hid (HB.out.trans (Kept.toBelow (B := w.heap.size) hk3 HB.out.size HF.out))
      have HX3 := Lib.hid hX3
      clear ho3 hk3 hX3
      go_upto_region 10 with fail
      rw [← HX3.out]
      have E0 := HC3.out.cell 0
      have E1 := HC3.out.cell 1
      have V0 := HV3.out.cell 0
      have V1 := HV3.out.cell 1
      have R0 := HR3.out.cell 0
      have R1 := HR3.out.cell 1
      have G0 := HR3.out.frozen 0
      have G1 := HR3.out.frozen 1
      simp only [List.getElem?_toArray, List.getElem?_cons_zero, List.getElem?_cons_succ] at E0 E1 V0 V1 R0 R1
      clear e0 e1 e2 e3 e4 e5 v0 v1 f0 f1 r0 r1 g0 g1 q0 q1 q2 p0 p1 p2
      go_wp2
      have HO4 : Hid (OwnV X3 F ⟨V.tok, V.mer.set k ⟨x, y, z⟩⟩ (.slice At vn ct) (.slice (some ⟨tg, 0, none⟩) vm cm) svs) := Lib.hid (by have h1 := HO3.out; rw [← HVM.out] at h1; exact h1)
      have hk1 : Kept (fun i => i = w.heap.size + 1) X3 (X3.setCell ⟨w.heap.size + 1, 0, none⟩ (.slice At vn ct)) := (Kept.refl (fun i => i = w.heap.size + 1) X3).setCell (p := ⟨w.heap.size + 1, 0, none⟩) (.inl rfl) _
      have hk2 : Kept (fun i => i = w.heap.size + 1) X3 ((X3.setCell ⟨w.heap.size + 1, 0, none⟩ (.slice At vn ct)).setCell ⟨w.heap.size + 1, 1, none⟩ (.slice (some ⟨tg, 0, none⟩) vm cm)) := hk1.setCell (p := ⟨w.heap.size + 1, 1, none⟩) (.inl rfl) _
      have h4 := HO4.out.far hk2 HNR.out (vocab_notB HR3.out (slice_notB _ _ _) (slice_notB _ _ _))
      obtain ⟨A1, B1, q1, q2, s1, s2, s3⟩ := h4.see (by have h1 := HVN.out; first | omega | (simp only [List.length_append, List.length_singleton, List.length_set]; omega)) (by have h1 := HVM.out; first | omega | (simp only [List.length_append, List.length_singleton, List.length_set]; omega))
      have hVe : Vc = ⟨V.tok, V.mer.set k ⟨x, y, z⟩⟩ := by rw [HVC.out]; unfold changeV; rw [if_neg (by omega), if_pos rfl, if_pos ⟨by omega, by have := HVM.out; omega⟩, Int.toNat_natCast]
      refine bodyPost_ret (results_cell_row rfl _ _ (w.heap.size + 1) 33 #[.slice At vn ct, .slice (some ⟨tg, 0, none⟩) vm cm] (0, 0) _ rfl ?_ Try.underlying33 rfl vocabCells) rfl ?_
      · have := (HR3.out.set_ 0 (.slice At vn ct)).set_ 1 (.slice (some ⟨tg, 0, none⟩) vm cm)
        simpa [Blk] using this
      · have hB9 := ((HB3.out).setCell (p := ⟨w.heap.size + 1, 0, none⟩) (Nat.le_succ _) (.slice At vn ct)).setCell (p := ⟨w.heap.size + 1, 1, none⟩) (Nat.le_succ _) (.slice (some ⟨tg, 0, none⟩) vm cm)
        rw [hVe]
        injection s1 with s11 s12 s13
        injection s2 with s21 s22 s23
        subst s11 s13 s21 s23
        refine ⟨_, _, _, _, ?_, s3, hB9⟩
        unfold vocV
        rw [← s12, ← s22]
    · have HNR0 := Lib.hid hr
      rcases (show a < 0 ∨ (0 ≤ a ∧ ((vm : Nat) : Int) ≤ a) from by omega) with ha | ⟨ha, hb⟩
      · have ha' : ¬ (0 ≤ a) := by omega
        have b9 := (Below.refl X.heap.size X).alloc (Nat.le_refl _) (.cells #[.int .i64 x, .int .i64 y, .int .i64 z] 25)
        obtain ⟨u9, hu9⟩ : ∃ z1, z1 = X.alloc (.cells #[.int .i64 x, .int .i64 y, .int .i64 z] 25) := ⟨_, rfl⟩
        have hn9 : Blk u9 X.heap.size 25 #[.int .i64 x, .int .i64 y, .int .i64 z] := by rw [hu9]; exact Blk.new _ _ _
        rw [← hu9] at b9
        have ho9 := HO.out.kept b9
        have hr9 := ho9.mrow
        rw [← HVM.out] at hr9
        have HO9 := Lib.hid ho9
        have HR9 := Lib.hid hr9
        have HN9 := Lib.hid hn9
        have HU9 := Lib.hid hu9
        have HV9 := Lib.hid (HV.out.below b9 HV.out.lt)
        have HNB9 := Lib.hid (own_blk_ne hr9 HV9.out (by decide))
        have HC9 := Lib.hid (HC.out.below b9 HC.out.lt)
        have HRR9 := Lib.hid (HR.out.below b9 HR.out.lt)
        have HB9 := Lib.hid (below_then HB.out b9 HB.out.size)
        have HS9 := Lib.hid (show vb < X.heap.size ∧ X.heap.size ≤ u9.heap.size from ⟨HV.out.lt, b9.size⟩)
        clear b9 hu9 hn9 ho9 hr9
        go_wp2_with (at_builtin; rw [← HU9.out]; refine wpList_append_own_at _ rfl _ _ 31 rfl 0 25 j0 _ 3 24 Try.underlying31 hj0 hy0 hy1 hy2 rfl (by decide) _ vm (V.mer.flatMap mgCells) rfl HR9.out ⟨X.heap.size, 0, none⟩ 1 1 (mgCells ⟨x, y, z⟩) rfl rfl (fun j u hu => by rw [addr_add, HN9.out.cell]; simpa [mgCells] using hu) (by simp [mgCells, Value.oneCell']) (by unfold maxLen; omega) (by omega) (Nat.zero_le _) ?_; intro v' w5 hown' hg5 hnil hloc; clear hnil; obtain ⟨A5, c5, hv⟩ := own_slice hown'; rw [hv] at hown' hloc ⊢; clear hv; have hv5 := HV9.out.grown hg5 (fun e => HNB9.out e.symm); have z5 := hv5.frozen 1; have y5 := hv5.cell 1; simp only [List.getElem?_toArray, List.getElem?_cons_zero, List.getElem?_cons_succ] at y5; have HV5 := Lib.hid hv5; have h5 := HO9.out.merApp (mv' := .slice A5 (vm + 1) c5) (m := ⟨x, y, z⟩) (w2 := w5) HMF.out (by rw [← HVM.out]; exact hown') hg5 hloc; have H5 := Lib.hid h5.1; have k5 := h5.2; have kX := (Kept.refl (fun i => i = vb) w5).setCell (p := ⟨vb, 1, none⟩) (.inl rfl) (.slice A5 (vm + 1) c5); have hnO := (show ¬ Own F u9 w5 vb from fun hf => by rcases hf with hf | hf; exact HNV.out hf; have h1 := hf.1; have h2 := HS9.out; omega); have hnR := (show ¬ Own F u9 w5 (w.heap.size + 1) from fun hf => by rcases hf with hf | hf; exact HNR.out hf; have h1 := hf.1; have h2 := HS9.out; have h3 := HVB.out; omega); have HNR6 := Lib.hid hnR; have HO6 := Lib.hid (H5.out.far kX hnO (vocab_notB HV5.out (slice_notB _ _ _) (slice_notB _ _ _))); have hc6 := (HC9.out.kept k5 HNC.out).kept kX (fun e => by have h3 := HVB.out; omega); have hr6 := (HRR9.out.kept k5 HNR.out).kept kX (fun e => by have h3 := HVB.out; omega); have HB6 := Lib.hid (((HB9.out.trans (Kept.toBelow (B := w.heap.size) k5 HB9.out.size HF.out)).setCell (p := ⟨vb, 1, none⟩) (by have h3 := HVB.out; show w.heap.size ≤ vb; omega) (.slice A5 (vm + 1) c5))); have hv6 := HV5.out.set_ 1 (.slice A5 (vm + 1) c5); have HV6 : Hid (Blk (w5.setCell ⟨vb, 1, none⟩ (.slice A5 (vm + 1) c5)) vb 33 #[.slice At vn ct, .slice A5 (vm + 1) c5]) := Lib.hid (by simpa using hv6); have HR6 := Lib.hid hr6; have E0 := hc6.cell 0; have E1 := hc6.cell 1; have V0 := HV6.out.cell 0; have V1 := HV6.out.cell 1; have R0 := hr6.cell 0; have R1 := hr6.cell 1; have G0 := hr6.frozen 0; have G1 := hr6.frozen 1; simp only [List.getElem?_toArray, List.getElem?_cons_zero, List.getElem?_cons_succ] at E0 E1 V0 V1 R0 R1; clear hown' hg5 hloc hv5 h5 k5 kX hnO hnR hc6 hr6 hv6)
        have hk1 : Kept (fun i => i = w.heap.size + 1) (w5.setCell ⟨vb, 1, none⟩ (.slice A5 (vm + 1) c5)) ((w5.setCell ⟨vb, 1, none⟩ (.slice A5 (vm + 1) c5)).setCell ⟨w.heap.size + 1, 0, none⟩ (.slice At vn ct)) := (Kept.refl (fun i => i = w.heap.size + 1) (w5.setCell ⟨vb, 1, none⟩ (.slice A5 (vm + 1) c5))).setCell (p := ⟨w.heap.size + 1, 0, none⟩) (.inl rfl) _
        have hk2 : Kept (fun i => i = w.heap.size + 1) (w5.setCell ⟨vb, 1, none⟩ (.slice A5 (vm + 1) c5)) (((w5.setCell ⟨vb, 1, none⟩ (.slice A5 (vm + 1) c5)).setCell ⟨w.heap.size + 1, 0, none⟩ (.slice At vn ct)).setCell ⟨w.heap.size + 1, 1, none⟩ (.slice A5 (vm + 1) c5)) := hk1.setCell (p := ⟨w.heap.size + 1, 1, none⟩) (.inl rfl) _
        have h4 := HO6.out.far hk2 HNR6.out (vocab_notB HR6.out (slice_notB _ _ _) (slice_notB _ _ _))
        obtain ⟨A1, B1, q1, q2, s1, s2, s3⟩ := h4.see (by have h1 := HVN.out; first | omega | (simp only [List.length_append, List.length_singleton, List.length_set]; omega)) (by have h1 := HVM.out; first | omega | (simp only [List.length_append, List.length_singleton, List.length_set]; omega))
        have hVe : Vc = ⟨V.tok, V.mer ++ [⟨x, y, z⟩]⟩ := by rw [HVC.out]; unfold changeV; rw [if_neg (by omega), if_pos rfl, if_neg (by rw [← HVM.out]; exact HNR0.out)]
        refine bodyPost_ret (results_cell_row rfl _ _ (w.heap.size + 1) 33 #[.slice At vn ct, .slice A5 (vm + 1) c5] (0, 0) _ rfl ?_ Try.underlying33 rfl vocabCells) rfl ?_
        · have := (HR6.out.set_ 0 (.slice At vn ct)).set_ 1 (.slice A5 (vm + 1) c5)
          simpa [Blk] using this
        · have hB9 := ((HB6.out).setCell (p := ⟨w.heap.size + 1, 0, none⟩) (Nat.le_succ _) (.slice At vn ct)).setCell (p := ⟨w.heap.size + 1, 1, none⟩) (Nat.le_succ _) (.slice A5 (vm + 1) c5)
          rw [hVe]
          injection s1 with s11 s12 s13
          injection s2 with s21 s22 s23
          subst s11 s13 s21 s23
          refine ⟨_, _, _, _, ?_, s3, hB9⟩
          unfold vocV
          rw [← s12, ← s22]
      · have hb' : ¬ (a < ((vm : Nat) : Int)) := by omega
        have b9 := (Below.refl X.heap.size X).alloc (Nat.le_refl _) (.cells #[.int .i64 x, .int .i64 y, .int .i64 z] 25)
        obtain ⟨u9, hu9⟩ : ∃ z1, z1 = X.alloc (.cells #[.int .i64 x, .int .i64 y, .int .i64 z] 25) := ⟨_, rfl⟩
        have hn9 : Blk u9 X.heap.size 25 #[.int .i64 x, .int .i64 y, .int .i64 z] := by rw [hu9]; exact Blk.new _ _ _
        rw [← hu9] at b9
        have ho9 := HO.out.kept b9
        have hr9 := ho9.mrow
        rw [← HVM.out] at hr9
        have HO9 := Lib.hid ho9
        have HR9 := Lib.hid hr9
        have HN9 := Lib.hid hn9
        have HU9 := Lib.hid hu9
        have HV9 := Lib.hid (HV.out.below b9 HV.out.lt)
        have HNB9 := Lib.hid (own_blk_ne hr9 HV9.out (by decide))
        have HC9 := Lib.hid (HC.out.below b9 HC.out.lt)
        have HRR9 := Lib.hid (HR.out.below b9 HR.out.lt)
        have HB9 := Lib.hid (below_then HB.out b9 HB.out.size)
        have HS9 := Lib.hid (show vb < X.heap.size ∧ X.heap.size ≤ u9.heap.size from ⟨HV.out.lt, b9.size⟩)
        clear b9 hu9 hn9 ho9 hr9
        go_wp2_with (at_builtin; rw [← HU9.out]; refine wpList_append_own_at _ rfl _ _ 31 rfl 0 25 j0 _ 3 24 Try.underlying31 hj0 hy0 hy1 hy2 rfl (by decide) _ vm (V.mer.flatMap mgCells) rfl HR9.out ⟨X.heap.size, 0, none⟩ 1 1 (mgCells ⟨x, y, z⟩) rfl rfl (fun j u hu => by rw [addr_add, HN9.out.cell]; simpa [mgCells] using hu) (by simp [mgCells, Value.oneCell']) (by unfold maxLen; omega) (by omega) (Nat.zero_le _) ?_; intro v' w5 hown' hg5 hnil hloc; clear hnil; obtain ⟨A5, c5, hv⟩ := own_slice hown'; rw [hv] at hown' hloc ⊢; clear hv; have hv5 := HV9.out.grown hg5 (fun e => HNB9.out e.symm); have z5 := hv5.frozen 1; have y5 := hv5.cell 1; simp only [List.getElem?_toArray, List.getElem?_cons_zero, List.getElem?_cons_succ] at y5; have HV5 := Lib.hid hv5; have h5 := HO9.out.merApp (mv' := .slice A5 (vm + 1) c5) (m := ⟨x, y, z⟩) (w2 := w5) HMF.out (by rw [← HVM.out]; exact hown') hg5 hloc; have H5 := Lib.hid h5.1; have k5 := h5.2; have kX := (Kept.refl (fun i => i = vb) w5).setCell (p := ⟨vb, 1, none⟩) (.inl rfl) (.slice A5 (vm + 1) c5); have hnO := (show ¬ Own F u9 w5 vb from fun hf => by rcases hf with hf | hf; exact HNV.out hf; have h1 := hf.1; have h2 := HS9.out; omega); have hnR := (show ¬ Own F u9 w5 (w.heap.size + 1) from fun hf => by rcases hf with hf | hf; exact HNR.out hf; have h1 := hf.1; have h2 := HS9.out; have h3 := HVB.out; omega); have HNR6 := Lib.hid hnR; have HO6 := Lib.hid (H5.out.far kX hnO (vocab_notB HV5.out (slice_notB _ _ _) (slice_notB _ _ _))); have hc6 := (HC9.out.kept k5 HNC.out).kept kX (fun e => by have h3 := HVB.out; omega); have hr6 := (HRR9.out.kept k5 HNR.out).kept kX (fun e => by have h3 := HVB.out; omega); have HB6 := Lib.hid (((HB9.out.trans (Kept.toBelow (B := w.heap.size) k5 HB9.out.size HF.out)).setCell (p := ⟨vb, 1, none⟩) (by have h3 := HVB.out; show w.heap.size ≤ vb; omega) (.slice A5 (vm + 1) c5))); have hv6 := HV5.out.set_ 1 (.slice A5 (vm + 1) c5); have HV6 : Hid (Blk (w5.setCell ⟨vb, 1, none⟩ (.slice A5 (vm + 1) c5)) vb 33 #[.slice At vn ct, .slice A5 (vm + 1) c5]) := Lib.hid (by simpa using hv6); have HR6 := Lib.hid hr6; have E0 := hc6.cell 0; have E1 := hc6.cell 1; have V0 := HV6.out.cell 0; have V1 := HV6.out.cell 1; have R0 := hr6.cell 0; have R1 := hr6.cell 1; have G0 := hr6.frozen 0; have G1 := hr6.frozen 1; simp only [List.getElem?_toArray, List.getElem?_cons_zero, List.getElem?_cons_succ] at E0 E1 V0 V1 R0 R1; clear hown' hg5 hloc hv5 h5 k5 kX hnO hnR hc6 hr6 hv6)
        have hk1 : Kept (fun i => i = w.heap.size + 1) (w5.setCell ⟨vb, 1, none⟩ (.slice A5 (vm + 1) c5)) ((w5.setCell ⟨vb, 1, none⟩ (.slice A5 (vm + 1) c5)).setCell ⟨w.heap.size + 1, 0, none⟩ (.slice At vn ct)) := (Kept.refl (fun i => i = w.heap.size + 1) (w5.setCell ⟨vb, 1, none⟩ (.slice A5 (vm + 1) c5))).setCell (p := ⟨w.heap.size + 1, 0, none⟩) (.inl rfl) _
        have hk2 : Kept (fun i => i = w.heap.size + 1) (w5.setCell ⟨vb, 1, none⟩ (.slice A5 (vm + 1) c5)) (((w5.setCell ⟨vb, 1, none⟩ (.slice A5 (vm + 1) c5)).setCell ⟨w.heap.size + 1, 0, none⟩ (.slice At vn ct)).setCell ⟨w.heap.size + 1, 1, none⟩ (.slice A5 (vm + 1) c5)) := hk1.setCell (p := ⟨w.heap.size + 1, 1, none⟩) (.inl rfl) _
        have h4 := HO6.out.far hk2 HNR6.out (vocab_notB HR6.out (slice_notB _ _ _) (slice_notB _ _ _))
        obtain ⟨A1, B1, q1, q2, s1, s2, s3⟩ := h4.see (by have h1 := HVN.out; first | omega | (simp only [List.length_append, List.length_singleton, List.length_set]; omega)) (by have h1 := HVM.out; first | omega | (simp only [List.length_append, List.length_singleton, List.length_set]; omega))
        have hVe : Vc = ⟨V.tok, V.mer ++ [⟨x, y, z⟩]⟩ := by rw [HVC.out]; unfold changeV; rw [if_neg (by omega), if_pos rfl, if_neg (by rw [← HVM.out]; exact HNR0.out)]
        refine bodyPost_ret (results_cell_row rfl _ _ (w.heap.size + 1) 33 #[.slice At vn ct, .slice A5 (vm + 1) c5] (0, 0) _ rfl ?_ Try.underlying33 rfl vocabCells) rfl ?_
        · have := (HR6.out.set_ 0 (.slice At vn ct)).set_ 1 (.slice A5 (vm + 1) c5)
          simpa [Blk] using this
        · have hB9 := ((HB6.out).setCell (p := ⟨w.heap.size + 1, 0, none⟩) (Nat.le_succ _) (.slice At vn ct)).setCell (p := ⟨w.heap.size + 1, 1, none⟩) (Nat.le_succ _) (.slice A5 (vm + 1) c5)
          rw [hVe]
          injection s1 with s11 s12 s13
          injection s2 with s21 s22 s23
          subst s11 s13 s21 s23
          refine ⟨_, _, _, _, ?_, s3, hB9⟩
          unfold vocV
          rw [← s12, ← s22]
  by_cases h2 : kd = 2
  · subst h2
    by_cases hr : 0 ≤ a ∧ a < (vn : Int)
    · obtain ⟨k, rfl⟩ : ∃ k : Nat, a = k := ⟨a.toNat, by omega⟩
      have ha : (0 : Int) ≤ (k : Int) := hr.1
      have hb : (k : Int) < (vn : Int) := hr.2
      have hkn : k < vn := by omega
      clear hr
      obtain ⟨A0, c0, q1, hcap⟩ := own_cap HO.out.trow
      have hkc : k ≤ ct := by injection q1 with _ q2 q3; have h1 := HVN.out; omega
      clear q1 hcap A0 c0
      have hsl := fun w1 => rows_to w1 At vn ct k hkc
      have kX := (Kept.refl (fun i => i = vb) X).setCell (p := ⟨vb, 0, none⟩) (.inl rfl) (.slice At k ct)
      have HO3 := Lib.hid (HO.out.far kX HNV.out (vocab_notB HV.out (slice_notB _ _ _) (slice_notB _ _ _)))
      have hr6 := HR.out.kept kX (fun e => by have h3 := HVB.out; omega)
      have hv6 := HV.out.set_ 0 (.slice At k ct)
      have HV3 : Hid (Blk (X.setCell ⟨vb, 0, none⟩ (.slice At k ct)) vb 33 #[.slice At k ct, .slice Bm vm cm]) := Lib.hid (by simpa using hv6)
      have HR3 := Lib.hid hr6
      have HB3 := Lib.hid (HB.out.setCell (p := ⟨vb, 0, none⟩) (by have h3 := HVB.out; show w.heap.size ≤ vb; omega) (.slice At k ct))
      have V0 := HV3.out.cell 0
      have V1 := HV3.out.cell 1
      have R0 := hr6.cell 0
      have R1 := hr6.cell 1
      have G0 := hr6.frozen 0
      have G1 := hr6.frozen 1
      simp only [List.getElem?_toArray, List.getElem?_cons_zero, List.getElem?_cons_succ] at V0 V1 R0 R1
      clear hr6 hv6 kX
      go_wp2
      have hk1 : Kept (fun i => i = w.heap.size + 1) (X.setCell ⟨vb, 0, none⟩ (.slice At k ct)) ((X.setCell ⟨vb, 0, none⟩ (.slice At k ct)).setCell ⟨w.heap.size + 1, 0, none⟩ (.slice At k ct)) := (Kept.refl (fun i => i = w.heap.size + 1) (X.setCell ⟨vb, 0, none⟩ (.slice At k ct))).setCell (p := ⟨w.heap.size + 1, 0, none⟩) (.inl rfl) _
      have hk2 : Kept (fun i => i = w.heap.size + 1) (X.setCell ⟨vb, 0, none⟩ (.slice At k ct)) (((X.setCell ⟨vb, 0, none⟩ (.slice At k ct)).setCell ⟨w.heap.size + 1, 0, none⟩ (.slice At k ct)).setCell ⟨w.heap.size + 1, 1, none⟩ (.slice Bm vm cm)) := hk1.setCell (p := ⟨w.heap.size + 1, 1, none⟩) (.inl rfl) _
      have h4 := HO3.out.far hk2 HNR.out (vocab_notB HR3.out (slice_notB _ _ _) (slice_notB _ _ _))
      obtain ⟨A1, B1, q1, q2, s1, s2, s3⟩ := h4.see (by have h1 := HVN.out; first | omega | (simp only [List.length_append, List.length_singleton, List.length_set]; omega)) (by have h1 := HVM.out; first | omega | (simp only [List.length_append, List.length_singleton, List.length_set]; omega))
      have hVe : Vc = ⟨V.tok.take k, V.mer⟩ := by rw [HVC.out]; unfold changeV; rw [if_neg (by omega), if_neg (by omega), if_pos ⟨rfl, by omega, by have := HVN.out; omega⟩, Int.toNat_natCast]
      refine bodyPost_ret (results_cell_row rfl _ _ (w.heap.size + 1) 33 #[.slice At k ct, .slice Bm vm cm] (0, 0) _ rfl ?_ Try.underlying33 rfl vocabCells) rfl ?_
      · have := (HR3.out.set_ 0 (.slice At k ct)).set_ 1 (.slice Bm vm cm)
        simpa [Blk] using this
      · have hB9 := ((HB3.out).setCell (p := ⟨w.heap.size + 1, 0, none⟩) (Nat.le_succ _) (.slice At k ct)).setCell (p := ⟨w.heap.size + 1, 1, none⟩) (Nat.le_succ _) (.slice Bm vm cm)
        rw [hVe]
        injection s1 with s11 s12 s13
        injection s2 with s21 s22 s23
        subst s11 s13 s21 s23
        have s4 := s3.upto k (by have h1 := HVN.out; omega)
        have hlk : (V.tok.take k).length = k := by rw [List.length_take]; have h1 := HVN.out; omega
        refine ⟨_, _, _, _, ?_, by simp only; rw [hlk]; exact s4, hB9⟩
        unfold vocV
        simp only
        rw [hlk, ← s22]
    · have HNR0 := Lib.hid hr
      rcases (show a < 0 ∨ (0 ≤ a ∧ ((vn : Nat) : Int) ≤ a) from by omega) with ha | ⟨ha, hb⟩
      · have ha' : ¬ (0 ≤ a) := by omega
        go_wp2
        have hk1 : Kept (fun i => i = w.heap.size + 1) X (X.setCell ⟨w.heap.size + 1, 0, none⟩ (.slice At vn ct)) := (Kept.refl (fun i => i = w.heap.size + 1) X).setCell (p := ⟨w.heap.size + 1, 0, none⟩) (.inl rfl) _
        have hk2 : Kept (fun i => i = w.heap.size + 1) X ((X.setCell ⟨w.heap.size + 1, 0, none⟩ (.slice At vn ct)).setCell ⟨w.heap.size + 1, 1, none⟩ (.slice Bm vm cm)) := hk1.setCell (p := ⟨w.heap.size + 1, 1, none⟩) (.inl rfl) _
        have h4 := HO.out.far hk2 HNR.out (vocab_notB HR.out (slice_notB _ _ _) (slice_notB _ _ _))
        obtain ⟨A1, B1, q1, q2, s1, s2, s3⟩ := h4.see (by have h1 := HVN.out; first | omega | (simp only [List.length_append, List.length_singleton, List.length_set]; omega)) (by have h1 := HVM.out; first | omega | (simp only [List.length_append, List.length_singleton, List.length_set]; omega))
        have hVe : Vc = V := by rw [HVC.out]; unfold changeV; rw [if_neg (by omega), if_neg (by omega), if_neg (by rw [← HVN.out]; exact fun h => HNR0.out h.2)]
        refine bodyPost_ret (results_cell_row rfl _ _ (w.heap.size + 1) 33 #[.slice At vn ct, .slice Bm vm cm] (0, 0) _ rfl ?_ Try.underlying33 rfl vocabCells) rfl ?_
        · have := (HR.out.set_ 0 (.slice At vn ct)).set_ 1 (.slice Bm vm cm)
          simpa [Blk] using this
        · have hB9 := ((HB.out).setCell (p := ⟨w.heap.size + 1, 0, none⟩) (Nat.le_succ _) (.slice At vn ct)).setCell (p := ⟨w.heap.size + 1, 1, none⟩) (Nat.le_succ _) (.slice Bm vm cm)
          rw [hVe]
          injection s1 with s11 s12 s13
          injection s2 with s21 s22 s23
          subst s11 s13 s21 s23
          refine ⟨_, _, _, _, ?_, s3, hB9⟩
          unfold vocV
          rw [← s12, ← s22]
      · have hb' : ¬ (a < ((vn : Nat) : Int)) := by omega
        go_wp2
        have hk1 : Kept (fun i => i = w.heap.size + 1) X (X.setCell ⟨w.heap.size + 1, 0, none⟩ (.slice At vn ct)) := (Kept.refl (fun i => i = w.heap.size + 1) X).setCell (p := ⟨w.heap.size + 1, 0, none⟩) (.inl rfl) _
        have hk2 : Kept (fun i => i = w.heap.size + 1) X ((X.setCell ⟨w.heap.size + 1, 0, none⟩ (.slice At vn ct)).setCell ⟨w.heap.size + 1, 1, none⟩ (.slice Bm vm cm)) := hk1.setCell (p := ⟨w.heap.size + 1, 1, none⟩) (.inl rfl) _
        have h4 := HO.out.far hk2 HNR.out (vocab_notB HR.out (slice_notB _ _ _) (slice_notB _ _ _))
        obtain ⟨A1, B1, q1, q2, s1, s2, s3⟩ := h4.see (by have h1 := HVN.out; first | omega | (simp only [List.length_append, List.length_singleton, List.length_set]; omega)) (by have h1 := HVM.out; first | omega | (simp only [List.length_append, List.length_singleton, List.length_set]; omega))
        have hVe : Vc = V := by rw [HVC.out]; unfold changeV; rw [if_neg (by omega), if_neg (by omega), if_neg (by rw [← HVN.out]; exact fun h => HNR0.out h.2)]
        refine bodyPost_ret (results_cell_row rfl _ _ (w.heap.size + 1) 33 #[.slice At vn ct, .slice Bm vm cm] (0, 0) _ rfl ?_ Try.underlying33 rfl vocabCells) rfl ?_
        · have := (HR.out.set_ 0 (.slice At vn ct)).set_ 1 (.slice Bm vm cm)
          simpa [Blk] using this
        · have hB9 := ((HB.out).setCell (p := ⟨w.heap.size + 1, 0, none⟩) (Nat.le_succ _) (.slice At vn ct)).setCell (p := ⟨w.heap.size + 1, 1, none⟩) (Nat.le_succ _) (.slice Bm vm cm)
          rw [hVe]
          injection s1 with s11 s12 s13
          injection s2 with s21 s22 s23
          subst s11 s13 s21 s23
          refine ⟨_, _, _, _, ?_, s3, hB9⟩
          unfold vocV
          rw [← s12, ← s22]
  have d0 : (kd == 0) = false := by simpa using h0
  have d1 : (kd == 1) = false := by simpa using h1
  have d2 : (kd == 2) = false := by simpa using h2
  have HH := Lib.hid (And.intro h0 (And.intro h1 h2))
  clear h0 h1 h2
  go_wp2
  have hk1 : Kept (fun i => i = w.heap.size + 1) X (X.setCell ⟨w.heap.size + 1, 0, none⟩ (.slice At vn ct)) := (Kept.refl (fun i => i = w.heap.size + 1) X).setCell (p := ⟨w.heap.size + 1, 0, none⟩) (.inl rfl) _
  have hk2 : Kept (fun i => i = w.heap.size + 1) X ((X.setCell ⟨w.heap.size + 1, 0, none⟩ (.slice At vn ct)).setCell ⟨w.heap.size + 1, 1, none⟩ (.slice Bm vm cm)) := hk1.setCell (p := ⟨w.heap.size + 1, 1, none⟩) (.inl rfl) _
  have h4 := HO.out.far hk2 HNR.out (vocab_notB HR.out (slice_notB _ _ _) (slice_notB _ _ _))
  obtain ⟨A1, B1, q1, q2, s1, s2, s3⟩ := h4.see (by have h1 := HVN.out; first | omega | (simp only [List.length_append, List.length_singleton, List.length_set]; omega)) (by have h1 := HVM.out; first | omega | (simp only [List.length_append, List.length_singleton, List.length_set]; omega))
  have hVe : Vc = V := by rw [HVC.out]; unfold changeV; rw [if_neg HH.out.1, if_neg HH.out.2.1, if_neg (fun h => HH.out.2.2 h.1)]
  refine bodyPost_ret (results_cell_row rfl _ _ (w.heap.size + 1) 33 #[.slice At vn ct, .slice Bm vm cm] (0, 0) _ rfl ?_ Try.underlying33 rfl vocabCells) rfl ?_
  · have := (HR.out.set_ 0 (.slice At vn ct)).set_ 1 (.slice Bm vm cm)
    simpa [Blk] using this
  · have hB9 := ((HB.out).setCell (p := ⟨w.heap.size + 1, 0, none⟩) (Nat.le_succ _) (.slice At vn ct)).setCell (p := ⟨w.heap.size + 1, 1, none⟩) (Nat.le_succ _) (.slice Bm vm cm)
    rw [hVe]
    injection s1 with s11 s12 s13
    injection s2 with s21 s22 s23
    subst s11 s13 s21 s23
    refine ⟨_, _, _, _, ?_, s3, hB9⟩
    unfold vocV
    rw [← s12, ← s22]
end Go.Proofs.Ytecpihghlelefaa
