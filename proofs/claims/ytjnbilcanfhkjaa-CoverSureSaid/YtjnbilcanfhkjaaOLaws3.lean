/- CoverSure. -/
import Derived.Test.YtjnbilcanfhkjaaOHead
import Derived.Test.YtjnbilcanfhkjaaOLMath
import Derived.Test.YtjnbilcanfhkjaaKStr
import Derived.Deep.QuietTactic
import Derived.Deep.RegionHeld3
import Derived.BigQuiet
namespace Go.Proofs.Ytjnbilcanfhkjaa
open Go.RowKit Go.Maps Go.WideMaps
set_option linter.unusedSimpArgs false

set_option maxHeartbeats 8000000 in
set_option maxRecDepth 100000 in
theorem coverSure_any {K : World → Nat → List Nm → Prop} (hK : CoverOk K) (W : World) (A : Option Addr) (n ca : Nat) (L : List Nm) (hl : RowsSz W A n L) (B : Option Addr) (m cb : Nat) (s : Nm) (hs : BytesSz W B m s) (hcb : m ≤ cb) :
    Calls Try.prog 5 #[.slice A n ca, .slice B m cb] W fun e w' => e = .returned (.bool true) ∧ Below W.heap.size W w' := by
  have hep := eqCoverNil
  have HK := Lib.hid hK
  have HL := Lib.hid hl
  have HS := Lib.hid hs
  have HLEN := Lib.hid hl.1.len
  have hsl : s.length = m := by have := hs.1.2.1.len; simpa using this
  have HSL := Lib.hid hsl
  have hmz : m ≤ 140737488351232 := hs.2
  have hnz : n ≤ 140737488351232 := hl.2.2
  clear hl hs hK hsl
  go_enter Try.func5, Try.ntmps5
  go_wp2_with fail
  refine ((coverHead_any HK.out _)).mono ?_
  rintro e w1 ⟨rfl, hb1⟩
  have HB1 := Lib.hid hb1
  clear hb1
  cases hr : rightB L with
  | false =>
    have HN := Lib.hid (HK.out.new_none w1 A n ca L (HL.out.1.below HB1.out) (by have := HL.out.2.2; omega) hr)
    clear hr
    go_wp2_with fail
    refine (HN.out).mono ?_
    rintro e w2 ⟨rfl, hb2⟩
    have HB2 := Lib.hid (below_then HB1.out hb2 HB1.out.size)
    clear hb2
    go_wp2
    go_ret
    exact ⟨rfl, HB2.out⟩
  | true =>
    have HN := Lib.hid (HK.out.new w1 A n ca L (HL.out.1.below HB1.out) hr)
    have HR := Lib.hid hr
    clear hr
    go_wp2_with fail
    refine (HN.out).mono ?_
    rintro e w2 ⟨b, rfl, hb2, hk2⟩
    have HB2 := Lib.hid (below_then HB1.out hb2 HB1.out.size)
    have HK2 := Lib.hid hk2
    have HG := Lib.hid (coverGreat_any w2 A B none n m 0 ca cb 0 L ((HL.out.1.below HB1.out).below hb2) HL.out.2.1 HL.out.2.2 HS.out.2 (by omega))
    clear hb2 hk2
    go_wp2_with fail
    refine (HG.out).mono ?_
    rintro e w3 ⟨r, rfl, hw3, hrr⟩
    obtain rfl := hw3
    cases r with
    | true =>
      clear hrr
      go_wp2
      go_ret
      exact ⟨rfl, HB2.out⟩
    | false =>
      obtain ⟨hm, -, -, -, -⟩ := hrr rfl
      clear hrr
      by_cases hm0 : m = 0
      · have d2 : ((m : Int) == 0) = true := by simp; omega
        go_wp2
        go_ret
        exact ⟨rfl, HB2.out⟩
      · have d2 : ((m : Int) == 0) = false := by simp; omega
        have HS3 := Lib.hid (HS.out.1.below HB2.out)
        have HC := Lib.hid (of_is HK.out HK2.out HR.out B m cb s HS3.out hcb (by omega) rfl)
        obtain ⟨a, ha⟩ : ∃ a, a = alUp L s L.length := ⟨_, rfl⟩
        rw [← ha] at HC
        have HA := Lib.hid ha
        clear ha
        go_wp2_with fail
        refine (HC.out).mono ?_
        rintro e w4 ⟨X4, x4, rfl, hi4, hb4⟩
        have HI4 := Lib.hid hi4
        have HB4 := Lib.hid (below_then HB2.out hb4 HB2.out.size)
        have HK4 := Lib.hid (HK.out.below HK2.out hb4)
        clear hi4 hb4 HC
        have HS4 := Lib.hid (HS.out.1.below HB4.out)
        have HL4 := Lib.hid (HL.out.1.below HB4.out)
        have HAF := Lib.hid (by rw [HA.out]; exact al_few HR.out s : a.length ≤ 8192)
        go_wp2
        go_loopw [8] (fun i wr => ∃ k : Nat, k ≤ a.length ∧ i = .int .i64 k ∧ Below w4.heap.size w4 wr) (fun i _ => a.length - (intOf i).toNat)
        case atStart => exact ⟨0, by omega, rfl, Below.refl _ _⟩
        case round =>
          obtain ⟨k, hk, rfl, hB⟩ := hrel
          have HB := Lib.hid hB
          have ha8 := HAF.out
          clear hB
          rcases Nat.lt_or_ge k a.length with hlt | hge
          · have hlt' : (k : Int) < (a.length : Int) := by omega
            have p0 : (0 : Int) ≤ (k : Int) := by omega
            have hw5 : IntKind.i64.wrap ((k : Int) + 1) = (k : Int) + 1 := IntWalk.i64_in _ (by omega)
            obtain ⟨pa, x, rfl, hx, a0, a1, hf0, hf1⟩ := (HI4.out.below HB.out).at k hlt
            have HX := Lib.hid hx
            obtain ⟨I, J, hI, h2, h3, hJ, hmay⟩ := alUp_mem.1 (by rw [← HA.out]; exact List.mem_of_getElem? hx)
            obtain ⟨x1, x2⟩ := x
            simp only at h2 h3 a0 a1 hf0 hf1
            subst h2 h3
            obtain ⟨t, ht⟩ : ∃ t, L[I]? = some t := ⟨_, List.getElem?_eq_getElem hI⟩
            have hgd : L.getD I [] = t := by rw [List.getD_eq_getElem?_getD, ht]; rfl
            rw [hgd] at hJ hmay
            obtain ⟨pt, At, ct, rfl, et, ect, ext⟩ := (HL4.out.below HB.out).at_ I t ht
            have hta : t.length ≤ 16 := right_16 HR.out ht
            obtain ⟨W1, hW1⟩ : ∃ W1, W1 = wr.alloc (.cells #[.int .i64 (I : Int), .int .i64 (J : Int)] 26) := ⟨_, rfl⟩
            have hBk : Blk W1 wr.heap.size 26 #[.int .i64 (I : Int), .int .i64 (J : Int)] := by rw [hW1]; exact Blk.new _ _ _
            have hb1 : Below wr.heap.size wr W1 := by rw [hW1]; exact (Below.refl _ wr).alloc (Nat.le_refl _) _
            have e0 : ∀ q, (W1.drewN q).cell? ⟨wr.heap.size, 0, none⟩ = some (.int .i64 I) := fun _ => hBk.cell 0
            have e1 : ∀ q, (W1.drewN q).cell? ⟨wr.heap.size, 1, none⟩ = some (.int .i64 J) := fun _ => hBk.cell 1
            have et1 : ∀ q, (W1.drewN q).cell? (pt.add I) = some (.slice At t.length ct) := fun q => below_cells (below_drewN hb1 q) et
            have d1 : decide ((I : Int) < 0) = false := decide_eq_false (by omega)
            have hIn : I < n := by have := HLEN.out; omega
            have d3 : decide ((n : Int) ≤ (I : Int)) = false := decide_eq_false (by omega)
            have d4 : decide ((J : Int) < 0) = false := decide_eq_false (by omega)
            have d5 : decide ((t.length : Int) ≤ (J : Int)) = false := decide_eq_false (by omega)
            have q0 : (0 : Int) ≤ (I : Int) := by omega
            have q1 : (I : Int) < (n : Int) := by omega
            have HW1 := Lib.hid hW1
            have HBK := Lib.hid hBk
            have HB1r := Lib.hid hb1
            have HT := Lib.hid ht
            have HMAY := Lib.hid hmay
            have HGD := Lib.hid hgd
            have HEXT := Lib.hid ext
            have HF := Lib.hid (⟨hf0, hf1⟩ : fits64 (I : Int) ∧ fits64 (J : Int))
            clear hx ht hgd et ext hW1 hBk hb1 hf0 hf1 hmay
            go_wp2_with fail
            rw [← HW1.out]
            go_quiet (fail)
            have hk2 := HBK.out.drewN nq
            have hb2 := below_drewN HB1r.out nq
            obtain ⟨W2, hW2⟩ : ∃ W2, W2 = W1.drewN nq := ⟨_, rfl⟩
            rw [← hW2] at hk2 hb2 ⊢
            have HBK2 := Lib.hid hk2
            have HB2r := Lib.hid hb2
            have f0 : ∀ q, (W2.drewN q).cell? ⟨wr.heap.size, 0, none⟩ = some (.int .i64 I) := fun _ => hk2.cell 0
            have f1 : ∀ q, (W2.drewN q).cell? ⟨wr.heap.size, 1, none⟩ = some (.int .i64 J) := fun _ => hk2.cell 1
            have et2w : W2.cell? (pt.add I) = some (.slice At t.length ct) := by rw [hW2]; exact et1 nq
            have et2 : ∀ q, (W2.drewN q).cell? (pt.add I) = some (.slice At t.length ct) := fun _ => et2w
            clear et2w hW2 hk2 hb2 et1 e0 e1 d1 d3 d4 d5
            have hsl := fun w => slice_from w At t.length ct J (by omega)
            have hin3 := HEXT.out.sub ect J t.length (by omega) (Nat.le_refl _)
            rw [List.take_length] at hin3
            obtain ⟨D, hD⟩ : ∃ D, D = t.length - J := ⟨_, rfl⟩
            obtain ⟨A3, hA3⟩ : ∃ A3, A3 = cutAddr At J ct := ⟨_, rfl⟩
            obtain ⟨c3, hc3⟩ : ∃ c3, c3 = ct - J := ⟨_, rfl⟩
            rw [← hD, ← hA3] at hin3
            simp only [← hD, ← hA3, ← hc3] at hsl
            have hDc : D ≤ c3 := by omega
            have hDJ : D + J = t.length := by omega
            have HIN3 := Lib.hid (hin3.below HB2r.out)
            have HDD := Lib.hid hD
            clear hin3 hA3 hc3 hD
            go_wp2_with fail
            go_quiet (fail)
            have hk3 := HBK2.out.drewN nq
            have hb3 := below_drewN HB2r.out nq
            obtain ⟨W3, hW3⟩ : ∃ W3, W3 = W2.drewN nq := ⟨_, rfl⟩
            have hb23 : Below W2.heap.size W2 W3 := by rw [hW3]; exact below_drewN (Below.refl _ _) _
            rw [← hW3] at hk3 hb3 ⊢
            have HBK3 := Lib.hid hk3
            have HB3r := Lib.hid hb3
            have g0 : ∀ q, (W3.drewN q).cell? ⟨wr.heap.size, 0, none⟩ = some (.int .i64 I) := fun _ => hk3.cell 0
            have g1 : ∀ q, (W3.drewN q).cell? ⟨wr.heap.size, 1, none⟩ = some (.int .i64 J) := fun _ => hk3.cell 1
            have g0z : W3.cell? ⟨wr.heap.size, 0, none⟩ = some (.int .i64 I) := hk3.cell 0
            have g1z : W3.cell? ⟨wr.heap.size, 1, none⟩ = some (.int .i64 J) := hk3.cell 1
            have HHB := Lib.hid (below_then HB4.out (below_then HB.out hb3 HB.out.size) HB4.out.size)
            clear hW3 hk3 hb3 f0 f1 et2 hsl
            have HKK := Lib.hid (HK.out.below HK4.out (below_then HB.out HB3r.out HB.out.size))
            have HR3 := Lib.hid (HIN3.out.below (hb23 : Below W2.heap.size W2 W3))
            clear hb23
            have HSS := Lib.hid (HS4.out.below (below_then HB.out HB3r.out HB.out.size))
            by_cases hz : m ≤ D
            · have d6 : decide ((m : Int) ≤ (D : Int)) = true := by simpa using hz
              have hsu : sureB L s (I : Int) (J : Int) = true := by
                unfold sureB
                rw [Int.toNat_natCast, HGD.out, HMAY.out, HSL.out]
                simp only [Bool.and_eq_true, decide_eq_true_eq]
                refine ⟨by omega, by omega, trivial, by omega⟩
              have hst := fun w => slice_to w A3 D c3 m (by omega)
              have htk := may_all HMAY.out (by have := HSL.out; omega)
              rw [HSL.out] at htk
              have HTK := Lib.hid htk
              have HC := Lib.hid (fun q => sure_is HK.out (HK.out.below HKK.out (below_drewN (Below.refl _ _) q)) HR.out B m cb s (HSS.out.drewN q) hcb (by omega) HF.out.1 HF.out.2 hsu)
              clear hsu htk
              have hS : ∀ w', Below W3.heap.size W3 w' → (fun w' => w'.cell? ⟨wr.heap.size, 0, none⟩ = some (.int .i64 (I : Int)) ∧ w'.cell? ⟨wr.heap.size, 1, none⟩ = some (.int .i64 (J : Int)) ∧ (convert 23 9 (.slice A3 m c3)).run Try.prog w' = .ok (.string ⟨s.toArray⟩) w' ∧ (convert 23 9 (.slice B m cb)).run Try.prog w' = .ok (.string ⟨s.toArray⟩) w' ∧ Below W3.heap.size W3 w') w' := fun w' hb => ⟨(HBK3.out.below hb HBK3.out.lt).cell 0, (HBK3.out.below hb HBK3.out.lt).cell 1, by have h := (HR3.out.below hb).upto m (by omega); rw [HTK.out] at h; exact str_of h c3, str_of (HSS.out.below hb) cb, hb⟩
              have HSA := Lib.hid hS
              clear hS
              go_wp2_with fail
              refine wp_region_held_drew (S := fun w' => w'.cell? ⟨wr.heap.size, 0, none⟩ = some (.int .i64 (I : Int)) ∧ w'.cell? ⟨wr.heap.size, 1, none⟩ = some (.int .i64 (J : Int)) ∧ (convert 23 9 (.slice A3 m c3)).run Try.prog w' = .ok (.string ⟨s.toArray⟩) w' ∧ (convert 23 9 (.slice B m cb)).run Try.prog w' = .ok (.string ⟨s.toArray⟩) w' ∧ Below W3.heap.size W3 w') (by kernel_rfl) ?_ (fun hHeld => ?_)
              · exact HSA.out _ (Below.refl _ _).drew
              refine wpAnyH_take (i := 0) (oi := ?oix1) (v := ?vx1) ?hix1 (by kernel_rfl) (by kernel_rfl) (by kernel_rfl) ?hQx1 (Or.inl ⟨?hwx1, ?hyx1⟩) (by assumption) ?restx1
              case hix1 => (first | (simp only [List.getElem?_toArray, List.getElem?_cons_zero, List.getElem?_cons_succ]; rfl) | rfl)
              case hQx1 => exact fun _ _ _ h => h
              case hwx1 => rfl
              case hyx1 => ((intro w hSw; go_simp); first | done | with_reducible rfl)
              try simp only [Act.put, List.setIfInBounds_toArray, List.set_cons_zero, List.set_cons_succ]
              refine wpAnyH_take (i := 1) (oi := ?oix2) (v := ?vx2) ?hix2 (by kernel_rfl) (by kernel_rfl) (by kernel_rfl) ?hQx2 (Or.inl ⟨?hwx2, ?hyx2⟩) (by assumption) ?restx2
              case hix2 => (first | (simp only [List.getElem?_toArray, List.getElem?_cons_zero, List.getElem?_cons_succ]; rfl) | rfl)
              case hQx2 => exact fun _ _ _ h => h
              case hwx2 => rfl
              case hyx2 => ((intro w hSw; go_simp); first | done | with_reducible rfl)
              try simp only [Act.put, List.setIfInBounds_toArray, List.set_cons_zero, List.set_cons_succ]
              refine wpAnyH_take (i := 2) (oi := ?oix3) (v := ?vx3) ?hix3 (by kernel_rfl) (by kernel_rfl) (by kernel_rfl) ?hQx3 (Or.inl ⟨?hwx3, ?hyx3⟩) (by assumption) ?restx3
              case hix3 => (first | (simp only [List.getElem?_toArray, List.getElem?_cons_zero, List.getElem?_cons_succ]; rfl) | rfl)
              case hQx3 => exact fun _ _ _ h => h
              case hwx3 => rfl
              case hyx3 => ((intro w hSw; obtain ⟨zs0, zs1, zs2, zs3, zs4⟩ := hSw; go_simp); first | done | with_reducible rfl)
              try simp only [Act.put, List.setIfInBounds_toArray, List.set_cons_zero, List.set_cons_succ]
              refine wpAnyH_take (i := 4) (oi := ?oix4) (v := ?vx4) ?hix4 (by kernel_rfl) (by kernel_rfl) (by kernel_rfl) ?hQx4 (Or.inl ⟨?hwx4, ?hyx4⟩) (by assumption) ?restx4
              case hix4 => (first | (simp only [List.getElem?_toArray, List.getElem?_cons_zero, List.getElem?_cons_succ]; rfl) | rfl)
              case hQx4 => exact fun _ _ _ h => h
              case hwx4 => rfl
              case hyx4 => ((intro w hSw; go_simp); first | done | with_reducible rfl)
              try simp only [Act.put, List.setIfInBounds_toArray, List.set_cons_zero, List.set_cons_succ]
              refine wpAnyH_ready (rs := [3]) (by kernel_rfl) (by simp) ?_
              refine AllReadyH.cons (o := ?oc1) ?hcc1 ?stc1 AllReadyH.nil
              case hcc1 => (simp only [List.getElem?_toArray, List.getElem?_cons_zero, List.getElem?_cons_succ]; rfl)
              intro K hK
              go_simp
              refine (HC.out 1).mono ?_
              rintro e w8 ⟨rfl, hb8⟩
              have HB8 := Lib.hid (below_then (below_drewN (Below.refl W3.heap.size W3) 1) hb8 (Nat.le_refl _))
              clear hb8
              go_wp2_with fail
              refine hK.out _ _ (HSA.out _ HB8.out) (fun hHeld2 => ?_)
              clear hK K
              try simp only [Act.put, List.setIfInBounds_toArray, List.set_cons_zero, List.set_cons_succ]
              refine wpAnyH_take (i := 5) (oi := ?oix5) (v := ?vx5) ?hix5 (by kernel_rfl) (by kernel_rfl) (by kernel_rfl) ?hQx5 (Or.inl ⟨?hwx5, ?hyx5⟩) (by assumption) ?restx5
              case hix5 => (first | (simp only [List.getElem?_toArray, List.getElem?_cons_zero, List.getElem?_cons_succ]; rfl) | rfl)
              case hQx5 => exact fun _ _ _ h => h
              case hwx5 => rfl
              case hyx5 => ((intro w hSw; go_simp); first | done | with_reducible rfl)
              try simp only [Act.put, List.setIfInBounds_toArray, List.set_cons_zero, List.set_cons_succ]
              refine wpAnyH_take (i := 6) (oi := ?oix6) (v := ?vx6) ?hix6 (by kernel_rfl) (by kernel_rfl) (by kernel_rfl) ?hQx6 (Or.inl ⟨?hwx6, ?hyx6⟩) (by assumption) ?restx6
              case hix6 => (first | (simp only [List.getElem?_toArray, List.getElem?_cons_zero, List.getElem?_cons_succ]; rfl) | rfl)
              case hQx6 => exact fun _ _ _ h => h
              case hwx6 => rfl
              case hyx6 => ((intro w hSw; go_simp); first | done | with_reducible rfl)
              try simp only [Act.put, List.setIfInBounds_toArray, List.set_cons_zero, List.set_cons_succ]
              refine wpAnyH_take (i := 7) (oi := ?oix7) (v := ?vx7) ?hix7 (by kernel_rfl) (by kernel_rfl) (by kernel_rfl) ?hQx7 (Or.inl ⟨?hwx7, ?hyx7⟩) (by assumption) ?restx7
              case hix7 => (first | (simp only [List.getElem?_toArray, List.getElem?_cons_zero, List.getElem?_cons_succ]; rfl) | rfl)
              case hQx7 => exact fun _ _ _ h => h
              case hwx7 => rfl
              case hyx7 => ((intro w hSw; go_simp); first | done | with_reducible rfl)
              try simp only [Act.put, List.setIfInBounds_toArray, List.set_cons_zero, List.set_cons_succ]
              refine wpAnyH_take (i := 8) (oi := ?oix8) (v := ?vx8) ?hix8 (by kernel_rfl) (by kernel_rfl) (by kernel_rfl) ?hQx8 (Or.inl ⟨?hwx8, ?hyx8⟩) (by assumption) ?restx8
              case hix8 => (first | (simp only [List.getElem?_toArray, List.getElem?_cons_zero, List.getElem?_cons_succ]; rfl) | rfl)
              case hQx8 => exact fun _ _ _ h => h
              case hwx8 => rfl
              case hyx8 => ((intro w hSw; go_simp); first | done | with_reducible rfl)
              try simp only [Act.put, List.setIfInBounds_toArray, List.set_cons_zero, List.set_cons_succ]
              refine wpAnyH_take (i := 9) (oi := ?oix9) (v := ?vx9) ?hix9 (by kernel_rfl) (by kernel_rfl) (by kernel_rfl) ?hQx9 (Or.inl ⟨?hwx9, ?hyx9⟩) (by assumption) ?restx9
              case hix9 => (first | (simp only [List.getElem?_toArray, List.getElem?_cons_zero, List.getElem?_cons_succ]; rfl) | rfl)
              case hQx9 => exact fun _ _ _ h => h
              case hwx9 => rfl
              case hyx9 => ((intro w hSw; go_simp); first | done | with_reducible rfl)
              try simp only [Act.put, List.setIfInBounds_toArray, List.set_cons_zero, List.set_cons_succ]
              refine wpAnyH_take (i := 10) (oi := ?oix10) (v := ?vx10) ?hix10 (by kernel_rfl) (by kernel_rfl) (by kernel_rfl) ?hQx10 (Or.inl ⟨?hwx10, ?hyx10⟩) (by assumption) ?restx10
              case hix10 => (first | (simp only [List.getElem?_toArray, List.getElem?_cons_zero, List.getElem?_cons_succ]; rfl) | rfl)
              case hQx10 => exact fun _ _ _ h => h
              case hwx10 => rfl
              case hyx10 => ((intro w hSw; go_simp); first | done | with_reducible rfl)
              try simp only [Act.put, List.setIfInBounds_toArray, List.set_cons_zero, List.set_cons_succ]
              refine wpAnyH_take (i := 11) (oi := ?oix11) (v := ?vx11) ?hix11 (by kernel_rfl) (by kernel_rfl) (by kernel_rfl) ?hQx11 (Or.inl ⟨?hwx11, ?hyx11⟩) (by assumption) ?restx11
              case hix11 => (first | (simp only [List.getElem?_toArray, List.getElem?_cons_zero, List.getElem?_cons_succ]; rfl) | rfl)
              case hQx11 => exact fun _ _ _ h => h
              case hwx11 => rfl
              case hyx11 => ((intro w hSw; go_simp); first | done | with_reducible rfl)
              try simp only [Act.put, List.setIfInBounds_toArray, List.set_cons_zero, List.set_cons_succ]
              refine wpAnyH_take (i := 12) (oi := ?oix12) (v := ?vx12) ?hix12 (by kernel_rfl) (by kernel_rfl) (by kernel_rfl) ?hQx12 (Or.inl ⟨?hwx12, ?hyx12⟩) (by assumption) ?restx12
              case hix12 => (first | (simp only [List.getElem?_toArray, List.getElem?_cons_zero, List.getElem?_cons_succ]; rfl) | rfl)
              case hQx12 => exact fun _ _ _ h => h
              case hwx12 => rfl
              case hyx12 => ((intro w hSw; go_simp); first | done | with_reducible rfl)
              try simp only [Act.put, List.setIfInBounds_toArray, List.set_cons_zero, List.set_cons_succ]
              refine wpAnyH_take (i := 13) (oi := ?oix13) (v := ?vx13) ?hix13 (by kernel_rfl) (by kernel_rfl) (by kernel_rfl) ?hQx13 (Or.inl ⟨?hwx13, ?hyx13⟩) (by assumption) ?restx13
              case hix13 => (first | (simp only [List.getElem?_toArray, List.getElem?_cons_zero, List.getElem?_cons_succ]; rfl) | rfl)
              case hQx13 => exact fun _ _ _ h => h
              case hwx13 => rfl
              case hyx13 => ((intro w hSw; obtain ⟨zs0, zs1, zs2, zs3, zs4⟩ := hSw; go_simp); first | done | with_reducible rfl)
              try simp only [Act.put, List.setIfInBounds_toArray, List.set_cons_zero, List.set_cons_succ]
              refine wpAnyH_take (i := 14) (oi := ?oix14) (v := ?vx14) ?hix14 (by kernel_rfl) (by kernel_rfl) (by kernel_rfl) ?hQx14 (Or.inl ⟨?hwx14, ?hyx14⟩) (by assumption) ?restx14
              case hix14 => (first | (simp only [List.getElem?_toArray, List.getElem?_cons_zero, List.getElem?_cons_succ]; rfl) | rfl)
              case hQx14 => exact fun _ _ _ h => h
              case hwx14 => rfl
              case hyx14 => ((intro w hSw; go_simp); first | done | with_reducible rfl)
              try simp only [Act.put, List.setIfInBounds_toArray, List.set_cons_zero, List.set_cons_succ]
              refine wpAnyH_take (i := 15) (oi := ?oix15) (v := ?vx15) ?hix15 (by kernel_rfl) (by kernel_rfl) (by kernel_rfl) ?hQx15 (Or.inl ⟨?hwx15, ?hyx15⟩) (by assumption) ?restx15
              case hix15 => (first | (simp only [List.getElem?_toArray, List.getElem?_cons_zero, List.getElem?_cons_succ]; rfl) | rfl)
              case hQx15 => exact fun _ _ _ h => h
              case hwx15 => rfl
              case hyx15 => ((intro w hSw; obtain ⟨zs0, zs1, zs2, zs3, zs4⟩ := hSw; go_simp); first | done | with_reducible rfl)
              try simp only [Act.put, List.setIfInBounds_toArray, List.set_cons_zero, List.set_cons_succ]
              refine wpAnyH_take (i := 16) (oi := ?oix16) (v := ?vx16) ?hix16 (by kernel_rfl) (by kernel_rfl) (by kernel_rfl) ?hQx16 (Or.inl ⟨?hwx16, ?hyx16⟩) (by assumption) ?restx16
              case hix16 => (first | (simp only [List.getElem?_toArray, List.getElem?_cons_zero, List.getElem?_cons_succ]; rfl) | rfl)
              case hQx16 => exact fun _ _ _ h => h
              case hwx16 => rfl
              case hyx16 => ((intro w hSw; go_simp); first | done | with_reducible rfl)
              try simp only [Act.put, List.setIfInBounds_toArray, List.set_cons_zero, List.set_cons_succ]
              refine wpAnyH_take (i := 17) (oi := ?oix17) (v := ?vx17) ?hix17 (by kernel_rfl) (by kernel_rfl) (by kernel_rfl) ?hQx17 (Or.inl ⟨?hwx17, ?hyx17⟩) (by assumption) ?restx17
              case hix17 => (first | (simp only [List.getElem?_toArray, List.getElem?_cons_zero, List.getElem?_cons_succ]; rfl) | rfl)
              case hQx17 => exact fun _ _ _ h => h
              case hwx17 => rfl
              case hyx17 => ((intro w hSw; go_simp); first | done | with_reducible rfl)
              try simp only [Act.put, List.setIfInBounds_toArray, List.set_cons_zero, List.set_cons_succ]
              refine wpAnyH_take (i := 18) (oi := ?oix18) (v := ?vx18) ?hix18 (by kernel_rfl) (by kernel_rfl) (by kernel_rfl) ?hQx18 (Or.inl ⟨?hwx18, ?hyx18⟩) (by assumption) ?restx18
              case hix18 => (first | (simp only [List.getElem?_toArray, List.getElem?_cons_zero, List.getElem?_cons_succ]; rfl) | rfl)
              case hQx18 => exact fun _ _ _ h => h
              case hwx18 => rfl
              case hyx18 => ((intro w hSw; go_simp); first | done | with_reducible rfl)
              try simp only [Act.put, List.setIfInBounds_toArray, List.set_cons_zero, List.set_cons_succ]
              refine wpAnyH_take (i := 19) (oi := ?oix19) (v := ?vx19) ?hix19 (by kernel_rfl) (by kernel_rfl) (by kernel_rfl) ?hQx19 (Or.inl ⟨?hwx19, ?hyx19⟩) (by assumption) ?restx19
              case hix19 => (first | (simp only [List.getElem?_toArray, List.getElem?_cons_zero, List.getElem?_cons_succ]; rfl) | rfl)
              case hQx19 => exact fun _ _ _ h => h
              case hwx19 => rfl
              case hyx19 => ((intro w hSw; go_simp); first | done | with_reducible rfl)
              try simp only [Act.put, List.setIfInBounds_toArray, List.set_cons_zero, List.set_cons_succ]
              refine wpAnyH_take (i := 20) (oi := ?oix20) (v := ?vx20) ?hix20 (by kernel_rfl) (by kernel_rfl) (by kernel_rfl) ?hQx20 (Or.inl ⟨?hwx20, ?hyx20⟩) (by assumption) ?restx20
              case hix20 => (first | (simp only [List.getElem?_toArray, List.getElem?_cons_zero, List.getElem?_cons_succ]; rfl) | rfl)
              case hQx20 => exact fun _ _ _ h => h
              case hwx20 => rfl
              case hyx20 => ((intro w hSw; go_simp); first | done | with_reducible rfl)
              try simp only [Act.put, List.setIfInBounds_toArray, List.set_cons_zero, List.set_cons_succ]
              refine wpAnyH_take (i := 21) (oi := ?oix21) (v := ?vx21) ?hix21 (by kernel_rfl) (by kernel_rfl) (by kernel_rfl) ?hQx21 (Or.inl ⟨?hwx21, ?hyx21⟩) (by assumption) ?restx21
              case hix21 => (first | (simp only [List.getElem?_toArray, List.getElem?_cons_zero, List.getElem?_cons_succ]; rfl) | rfl)
              case hQx21 => exact fun _ _ _ h => h
              case hwx21 => rfl
              case hyx21 => ((intro w hSw; go_simp); first | done | with_reducible rfl)
              try simp only [Act.put, List.setIfInBounds_toArray, List.set_cons_zero, List.set_cons_succ]
              refine wpAnyH_take (i := 22) (oi := ?oix22) (v := ?vx22) ?hix22 (by kernel_rfl) (by kernel_rfl) (by kernel_rfl) ?hQx22 (Or.inl ⟨?hwx22, ?hyx22⟩) (by assumption) ?restx22
              case hix22 => (first | (simp only [List.getElem?_toArray, List.getElem?_cons_zero, List.getElem?_cons_succ]; rfl) | rfl)
              case hQx22 => exact fun _ _ _ h => h
              case hwx22 => rfl
              case hyx22 => ((intro w hSw; go_simp); first | done | with_reducible rfl)
              try simp only [Act.put, List.setIfInBounds_toArray, List.set_cons_zero, List.set_cons_succ]
              refine wpAnyH_take (i := 23) (oi := ?oix23) (v := ?vx23) ?hix23 (by kernel_rfl) (by kernel_rfl) (by kernel_rfl) ?hQx23 (Or.inr ⟨?hwx23, ?hyx23⟩) (by assumption) ?restx23
              case hix23 => (first | (simp only [List.getElem?_toArray, List.getElem?_cons_zero, List.getElem?_cons_succ]; rfl) | rfl)
              case hQx23 => exact fun _ _ _ h => h
              case hwx23 => rfl
              case hyx23 => rfl
              try simp only [Act.put, List.setIfInBounds_toArray, List.set_cons_zero, List.set_cons_succ]
              refine wpAnyH_take (i := 24) (oi := ?oix24) (v := ?vx24) ?hix24 (by kernel_rfl) (by kernel_rfl) (by kernel_rfl) ?hQx24 (Or.inr ⟨?hwx24, ?hyx24⟩) (by assumption) ?restx24
              case hix24 => (first | (simp only [List.getElem?_toArray, List.getElem?_cons_zero, List.getElem?_cons_succ]; rfl) | rfl)
              case hQx24 => exact fun _ _ _ h => h
              case hwx24 => rfl
              case hyx24 => rfl
              try simp only [Act.put, List.setIfInBounds_toArray, List.set_cons_zero, List.set_cons_succ]
              refine wpAnyH_take (i := 25) (oi := ?oix25) (v := ?vx25) ?hix25 (by kernel_rfl) (by kernel_rfl) (by kernel_rfl) ?hQx25 (Or.inr ⟨?hwx25, ?hyx25⟩) (by assumption) ?restx25
              case hix25 => (first | (simp only [List.getElem?_toArray, List.getElem?_cons_zero, List.getElem?_cons_succ]; rfl) | rfl)
              case hQx25 => exact fun _ _ _ h => h
              case hwx25 => rfl
              case hyx25 => rfl
              try simp only [Act.put, List.setIfInBounds_toArray, List.set_cons_zero, List.set_cons_succ]
              refine wpAnyH_take (i := 26) (oi := ?oix26) (v := ?vx26) ?hix26 (by kernel_rfl) (by kernel_rfl) (by kernel_rfl) ?hQx26 (Or.inr ⟨?hwx26, ?hyx26⟩) (by assumption) ?restx26
              case hix26 => (first | (simp only [List.getElem?_toArray, List.getElem?_cons_zero, List.getElem?_cons_succ]; rfl) | rfl)
              case hQx26 => exact fun _ _ _ h => h
              case hwx26 => rfl
              case hyx26 => rfl
              try simp only [Act.put, List.setIfInBounds_toArray, List.set_cons_zero, List.set_cons_succ]
              refine wpAnyH_take (i := 27) (oi := ?oix27) (v := ?vx27) ?hix27 (by kernel_rfl) (by kernel_rfl) (by kernel_rfl) ?hQx27 (Or.inr ⟨?hwx27, ?hyx27⟩) (by assumption) ?restx27
              case hix27 => (first | (simp only [List.getElem?_toArray, List.getElem?_cons_zero, List.getElem?_cons_succ]; rfl) | rfl)
              case hQx27 => exact fun _ _ _ h => h
              case hwx27 => rfl
              case hyx27 => rfl
              try simp only [Act.put, List.setIfInBounds_toArray, List.set_cons_zero, List.set_cons_succ]
              refine wpAnyH_take (i := 28) (oi := ?oix28) (v := ?vx28) ?hix28 (by kernel_rfl) (by kernel_rfl) (by kernel_rfl) ?hQx28 (Or.inr ⟨?hwx28, ?hyx28⟩) (by assumption) ?restx28
              case hix28 => (first | (simp only [List.getElem?_toArray, List.getElem?_cons_zero, List.getElem?_cons_succ]; rfl) | rfl)
              case hQx28 => exact fun _ _ _ h => h
              case hwx28 => rfl
              case hyx28 => rfl
              try simp only [Act.put, List.setIfInBounds_toArray, List.set_cons_zero, List.set_cons_succ]
              refine wpAnyH_take (i := 29) (oi := ?oix29) (v := ?vx29) ?hix29 (by kernel_rfl) (by kernel_rfl) (by kernel_rfl) ?hQx29 (Or.inr ⟨?hwx29, ?hyx29⟩) (by assumption) ?restx29
              case hix29 => (first | (simp only [List.getElem?_toArray, List.getElem?_cons_zero, List.getElem?_cons_succ]; rfl) | rfl)
              case hQx29 => exact fun _ _ _ h => h
              case hwx29 => rfl
              case hyx29 => rfl
              try simp only [Act.put, List.setIfInBounds_toArray, List.set_cons_zero, List.set_cons_succ]
              refine wpAnyH_take (i := 30) (oi := ?oix30) (v := ?vx30) ?hix30 (by kernel_rfl) (by kernel_rfl) (by kernel_rfl) ?hQx30 (Or.inr ⟨?hwx30, ?hyx30⟩) (by assumption) ?restx30
              case hix30 => (first | (simp only [List.getElem?_toArray, List.getElem?_cons_zero, List.getElem?_cons_succ]; rfl) | rfl)
              case hQx30 => exact fun _ _ _ h => h
              case hwx30 => rfl
              case hyx30 => rfl
              try simp only [Act.put, List.setIfInBounds_toArray, List.set_cons_zero, List.set_cons_succ]
              refine wpAnyH_take (i := 31) (oi := ?oix31) (v := ?vx31) ?hix31 (by kernel_rfl) (by kernel_rfl) (by kernel_rfl) ?hQx31 (Or.inl ⟨?hwx31, ?hyx31⟩) (by assumption) ?restx31
              case hix31 => (first | (simp only [List.getElem?_toArray, List.getElem?_cons_zero, List.getElem?_cons_succ]; rfl) | rfl)
              case hQx31 => exact fun _ _ _ h => h
              case hwx31 => rfl
              case hyx31 => ((intro w hSw; go_simp); first | done | with_reducible rfl)
              try simp only [Act.put, List.setIfInBounds_toArray, List.set_cons_zero, List.set_cons_succ]
              refine wpAnyH_take (i := 32) (oi := ?oix32) (v := ?vx32) ?hix32 (by kernel_rfl) (by kernel_rfl) (by kernel_rfl) ?hQx32 (Or.inl ⟨?hwx32, ?hyx32⟩) (by assumption) ?restx32
              case hix32 => (first | (simp only [List.getElem?_toArray, List.getElem?_cons_zero, List.getElem?_cons_succ]; rfl) | rfl)
              case hQx32 => exact fun _ _ _ h => h
              case hwx32 => rfl
              case hyx32 => ((intro w hSw; go_simp); first | done | with_reducible rfl)
              try simp only [Act.put, List.setIfInBounds_toArray, List.set_cons_zero, List.set_cons_succ]
              refine wpAnyH_done (by kernel_rfl) ?_ _
              clear hHeld hHeld2
              clear hst HC
              have H48 := Lib.hid (below_then (below_then HB.out HB3r.out HB.out.size) HB8.out (Nat.le_trans HB.out.size HB3r.out.size))
              have hk8 := HBK3.out.below HB8.out HBK3.out.lt
              have j0 : ∀ q, (w8.drewN q).cell? ⟨wr.heap.size, 0, none⟩ = some (.int .i64 I) := fun _ => hk8.cell 0
              have j1 : ∀ q, (w8.drewN q).cell? ⟨wr.heap.size, 1, none⟩ = some (.int .i64 J) := fun _ => hk8.cell 1
              clear hk8
              by_cases hk0 : k = 0
              · have d7 : decide ((0 : Int) < (k : Int)) = false := decide_eq_false (by omega)
                go_wp2_with fail
                go_quiet (fail)
                have HBQ := Lib.hid (below_drewN H48.out nq)
                go_wp2
                go_roundw
                case rel => exact ⟨k + 1, by omega, by go_num, HBQ.out⟩
                case measure => simp [intOf]; omega
              · have d7 : decide ((0 : Int) < (k : Int)) = true := decide_eq_true (by omega)
                have d7i : (0 : Int) < (k : Int) := by omega
                have d7n : 0 < k := by omega
                have d7m : decide (0 < k) = true := decide_eq_true d7n
                obtain ⟨k', hk'⟩ : ∃ k', k = k' + 1 := ⟨k - 1, by omega⟩
                have hw7 : IntKind.i64.wrap ((k : Int) - 1) = (k' : Int) := by rw [show (k : Int) - 1 = (k' : Int) by omega]; exact IntWalk.i64_in _ (by omega)
                have p7 : (0 : Int) ≤ (k' : Int) := by omega
                have p8 : (k' : Int) < (a.length : Int) := by omega
                have p8n : k' < a.length := by omega
                obtain ⟨pb, y, hpb, hy, b0, b1, -, -⟩ := (HI4.out.below H48.out).at k' (by omega)
                obtain rfl : pa = pb := Option.some.inj hpb
                have hlt2 : ltP y ((I : Int), (J : Int)) := al_next (by rw [← HA.out]; exact hy) (by rw [← HA.out, ← hk']; exact HX.out)
                obtain ⟨y1, y2⟩ := y
                simp only at b0 b1
                have b0' : ∀ q, (w8.drewN q).cell? (pa.add (k' * 2)) = some (.int .i64 y1) := fun _ => b0
                have b1' : ∀ q, (w8.drewN q).cell? ⟨(pa.add (k' * 2)).block, (pa.add (k' * 2)).off + 1, none⟩ = some (.int .i64 y2) := fun _ => b1
                clear hpb hy b0 b1 hk'
                rcases hlt2 with hlt2 | ⟨hlt2, hlt3⟩
                · simp only at hlt2
                  have d8 : decide ((I : Int) < y1) = false := decide_eq_false (by omega)
                  have d9 : (y1 == (I : Int)) = false := by simp; omega
                  clear hlt2
                  go_wp2_with fail
                  go_quiet (fail)
                  have HBQ := Lib.hid (below_drewN H48.out nq)
                  go_wp2
                  go_roundw
                  case rel => exact ⟨k + 1, by omega, by go_num, HBQ.out⟩
                  case measure => simp [intOf]; omega
                · simp only at hlt2 hlt3
                  subst hlt2
                  have d8 : decide ((I : Int) < (I : Int)) = false := decide_eq_false (by omega)
                  have d9 : ((I : Int) == (I : Int)) = true := by simp
                  have d10 : decide ((J : Int) ≤ y2) = false := decide_eq_false (by omega)
                  clear hlt3
                  go_wp2_with fail
                  go_quiet (fail)
                  have HBQ := Lib.hid (below_drewN H48.out nq)
                  go_wp2
                  go_roundw
                  case rel => exact ⟨k + 1, by omega, by go_num, HBQ.out⟩
                  case measure => simp [intOf]; omega
            · have d6 : decide ((m : Int) ≤ (D : Int)) = false := decide_eq_false (by omega)
              have hsu : sureB L s (I : Int) (J : Int) = false := by
                unfold sureB
                rw [Int.toNat_natCast, HGD.out, HMAY.out, HSL.out, decide_eq_false (show ¬ ((m : Int) ≤ (t.length : Int) - (J : Int)) by omega)]
                simp
              have hst := fun w => slice_to w B m cb D (by omega)
              have htk := may_part HMAY.out (by have := HSL.out; omega)
              rw [← HDD.out] at htk
              have HTK := Lib.hid htk
              have HC := Lib.hid (fun q => sure_is HK.out (HK.out.below HKK.out (below_drewN (Below.refl _ _) q)) HR.out B m cb s (HSS.out.drewN q) hcb (by omega) HF.out.1 HF.out.2 hsu)
              clear hsu htk
              have hS : ∀ w', Below W3.heap.size W3 w' → (fun w' => w'.cell? ⟨wr.heap.size, 0, none⟩ = some (.int .i64 (I : Int)) ∧ w'.cell? ⟨wr.heap.size, 1, none⟩ = some (.int .i64 (J : Int)) ∧ (convert 23 9 (.slice A3 D c3)).run Try.prog w' = .ok (.string ⟨(t.drop J).toArray⟩) w' ∧ (convert 23 9 (.slice B D cb)).run Try.prog w' = .ok (.string ⟨(t.drop J).toArray⟩) w' ∧ Below W3.heap.size W3 w') w' := fun w' hb => ⟨(HBK3.out.below hb HBK3.out.lt).cell 0, (HBK3.out.below hb HBK3.out.lt).cell 1, str_of (HR3.out.below hb) c3, by have h := (HSS.out.below hb).upto D (by omega); rw [HTK.out] at h; exact str_of h cb, hb⟩
              have HSA := Lib.hid hS
              clear hS
              go_wp2_with fail
              refine wp_region_held_drew (S := fun w' => w'.cell? ⟨wr.heap.size, 0, none⟩ = some (.int .i64 (I : Int)) ∧ w'.cell? ⟨wr.heap.size, 1, none⟩ = some (.int .i64 (J : Int)) ∧ (convert 23 9 (.slice A3 D c3)).run Try.prog w' = .ok (.string ⟨(t.drop J).toArray⟩) w' ∧ (convert 23 9 (.slice B D cb)).run Try.prog w' = .ok (.string ⟨(t.drop J).toArray⟩) w' ∧ Below W3.heap.size W3 w') (by kernel_rfl) ?_ (fun hHeld => ?_)
              · exact HSA.out _ (Below.refl _ _).drew
              refine wpAnyH_take (i := 0) (oi := ?oix33) (v := ?vx33) ?hix33 (by kernel_rfl) (by kernel_rfl) (by kernel_rfl) ?hQx33 (Or.inl ⟨?hwx33, ?hyx33⟩) (by assumption) ?restx33
              case hix33 => (first | (simp only [List.getElem?_toArray, List.getElem?_cons_zero, List.getElem?_cons_succ]; rfl) | rfl)
              case hQx33 => exact fun _ _ _ h => h
              case hwx33 => rfl
              case hyx33 => ((intro w hSw; go_simp); first | done | with_reducible rfl)
              try simp only [Act.put, List.setIfInBounds_toArray, List.set_cons_zero, List.set_cons_succ]
              refine wpAnyH_take (i := 1) (oi := ?oix34) (v := ?vx34) ?hix34 (by kernel_rfl) (by kernel_rfl) (by kernel_rfl) ?hQx34 (Or.inl ⟨?hwx34, ?hyx34⟩) (by assumption) ?restx34
              case hix34 => (first | (simp only [List.getElem?_toArray, List.getElem?_cons_zero, List.getElem?_cons_succ]; rfl) | rfl)
              case hQx34 => exact fun _ _ _ h => h
              case hwx34 => rfl
              case hyx34 => ((intro w hSw; go_simp); first | done | with_reducible rfl)
              try simp only [Act.put, List.setIfInBounds_toArray, List.set_cons_zero, List.set_cons_succ]
              refine wpAnyH_take (i := 2) (oi := ?oix35) (v := ?vx35) ?hix35 (by kernel_rfl) (by kernel_rfl) (by kernel_rfl) ?hQx35 (Or.inl ⟨?hwx35, ?hyx35⟩) (by assumption) ?restx35
              case hix35 => (first | (simp only [List.getElem?_toArray, List.getElem?_cons_zero, List.getElem?_cons_succ]; rfl) | rfl)
              case hQx35 => exact fun _ _ _ h => h
              case hwx35 => rfl
              case hyx35 => ((intro w hSw; obtain ⟨zs0, zs1, zs2, zs3, zs4⟩ := hSw; go_simp); first | done | with_reducible rfl)
              try simp only [Act.put, List.setIfInBounds_toArray, List.set_cons_zero, List.set_cons_succ]
              refine wpAnyH_take (i := 4) (oi := ?oix36) (v := ?vx36) ?hix36 (by kernel_rfl) (by kernel_rfl) (by kernel_rfl) ?hQx36 (Or.inl ⟨?hwx36, ?hyx36⟩) (by assumption) ?restx36
              case hix36 => (first | (simp only [List.getElem?_toArray, List.getElem?_cons_zero, List.getElem?_cons_succ]; rfl) | rfl)
              case hQx36 => exact fun _ _ _ h => h
              case hwx36 => rfl
              case hyx36 => ((intro w hSw; go_simp); first | done | with_reducible rfl)
              try simp only [Act.put, List.setIfInBounds_toArray, List.set_cons_zero, List.set_cons_succ]
              refine wpAnyH_ready (rs := [3]) (by kernel_rfl) (by simp) ?_
              refine AllReadyH.cons (o := ?oc0) ?hcc0 ?stc0 AllReadyH.nil
              case hcc0 => (simp only [List.getElem?_toArray, List.getElem?_cons_zero, List.getElem?_cons_succ]; rfl)
              intro K hK
              go_simp
              refine (HC.out 1).mono ?_
              rintro e w8 ⟨rfl, hb8⟩
              have HB8 := Lib.hid (below_then (below_drewN (Below.refl W3.heap.size W3) 1) hb8 (Nat.le_refl _))
              clear hb8
              go_wp2_with fail
              refine hK.out _ _ (HSA.out _ HB8.out) (fun hHeld2 => ?_)
              clear hK K
              try simp only [Act.put, List.setIfInBounds_toArray, List.set_cons_zero, List.set_cons_succ]
              refine wpAnyH_take (i := 5) (oi := ?oix37) (v := ?vx37) ?hix37 (by kernel_rfl) (by kernel_rfl) (by kernel_rfl) ?hQx37 (Or.inl ⟨?hwx37, ?hyx37⟩) (by assumption) ?restx37
              case hix37 => (first | (simp only [List.getElem?_toArray, List.getElem?_cons_zero, List.getElem?_cons_succ]; rfl) | rfl)
              case hQx37 => exact fun _ _ _ h => h
              case hwx37 => rfl
              case hyx37 => ((intro w hSw; go_simp); first | done | with_reducible rfl)
              try simp only [Act.put, List.setIfInBounds_toArray, List.set_cons_zero, List.set_cons_succ]
              refine wpAnyH_take (i := 6) (oi := ?oix38) (v := ?vx38) ?hix38 (by kernel_rfl) (by kernel_rfl) (by kernel_rfl) ?hQx38 (Or.inl ⟨?hwx38, ?hyx38⟩) (by assumption) ?restx38
              case hix38 => (first | (simp only [List.getElem?_toArray, List.getElem?_cons_zero, List.getElem?_cons_succ]; rfl) | rfl)
              case hQx38 => exact fun _ _ _ h => h
              case hwx38 => rfl
              case hyx38 => ((intro w hSw; go_simp); first | done | with_reducible rfl)
              try simp only [Act.put, List.setIfInBounds_toArray, List.set_cons_zero, List.set_cons_succ]
              refine wpAnyH_take (i := 7) (oi := ?oix39) (v := ?vx39) ?hix39 (by kernel_rfl) (by kernel_rfl) (by kernel_rfl) ?hQx39 (Or.inl ⟨?hwx39, ?hyx39⟩) (by assumption) ?restx39
              case hix39 => (first | (simp only [List.getElem?_toArray, List.getElem?_cons_zero, List.getElem?_cons_succ]; rfl) | rfl)
              case hQx39 => exact fun _ _ _ h => h
              case hwx39 => rfl
              case hyx39 => ((intro w hSw; go_simp); first | done | with_reducible rfl)
              try simp only [Act.put, List.setIfInBounds_toArray, List.set_cons_zero, List.set_cons_succ]
              refine wpAnyH_take (i := 8) (oi := ?oix40) (v := ?vx40) ?hix40 (by kernel_rfl) (by kernel_rfl) (by kernel_rfl) ?hQx40 (Or.inl ⟨?hwx40, ?hyx40⟩) (by assumption) ?restx40
              case hix40 => (first | (simp only [List.getElem?_toArray, List.getElem?_cons_zero, List.getElem?_cons_succ]; rfl) | rfl)
              case hQx40 => exact fun _ _ _ h => h
              case hwx40 => rfl
              case hyx40 => ((intro w hSw; go_simp); first | done | with_reducible rfl)
              try simp only [Act.put, List.setIfInBounds_toArray, List.set_cons_zero, List.set_cons_succ]
              refine wpAnyH_take (i := 9) (oi := ?oix41) (v := ?vx41) ?hix41 (by kernel_rfl) (by kernel_rfl) (by kernel_rfl) ?hQx41 (Or.inr ⟨?hwx41, ?hyx41⟩) (by assumption) ?restx41
              case hix41 => (first | (simp only [List.getElem?_toArray, List.getElem?_cons_zero, List.getElem?_cons_succ]; rfl) | rfl)
              case hQx41 => exact fun _ _ _ h => h
              case hwx41 => rfl
              case hyx41 => rfl
              try simp only [Act.put, List.setIfInBounds_toArray, List.set_cons_zero, List.set_cons_succ]
              refine wpAnyH_take (i := 10) (oi := ?oix42) (v := ?vx42) ?hix42 (by kernel_rfl) (by kernel_rfl) (by kernel_rfl) ?hQx42 (Or.inr ⟨?hwx42, ?hyx42⟩) (by assumption) ?restx42
              case hix42 => (first | (simp only [List.getElem?_toArray, List.getElem?_cons_zero, List.getElem?_cons_succ]; rfl) | rfl)
              case hQx42 => exact fun _ _ _ h => h
              case hwx42 => rfl
              case hyx42 => rfl
              try simp only [Act.put, List.setIfInBounds_toArray, List.set_cons_zero, List.set_cons_succ]
              refine wpAnyH_take (i := 11) (oi := ?oix43) (v := ?vx43) ?hix43 (by kernel_rfl) (by kernel_rfl) (by kernel_rfl) ?hQx43 (Or.inr ⟨?hwx43, ?hyx43⟩) (by assumption) ?restx43
              case hix43 => (first | (simp only [List.getElem?_toArray, List.getElem?_cons_zero, List.getElem?_cons_succ]; rfl) | rfl)
              case hQx43 => exact fun _ _ _ h => h
              case hwx43 => rfl
              case hyx43 => rfl
              try simp only [Act.put, List.setIfInBounds_toArray, List.set_cons_zero, List.set_cons_succ]
              refine wpAnyH_take (i := 12) (oi := ?oix44) (v := ?vx44) ?hix44 (by kernel_rfl) (by kernel_rfl) (by kernel_rfl) ?hQx44 (Or.inr ⟨?hwx44, ?hyx44⟩) (by assumption) ?restx44
              case hix44 => (first | (simp only [List.getElem?_toArray, List.getElem?_cons_zero, List.getElem?_cons_succ]; rfl) | rfl)
              case hQx44 => exact fun _ _ _ h => h
              case hwx44 => rfl
              case hyx44 => rfl
              try simp only [Act.put, List.setIfInBounds_toArray, List.set_cons_zero, List.set_cons_succ]
              refine wpAnyH_take (i := 13) (oi := ?oix45) (v := ?vx45) ?hix45 (by kernel_rfl) (by kernel_rfl) (by kernel_rfl) ?hQx45 (Or.inr ⟨?hwx45, ?hyx45⟩) (by assumption) ?restx45
              case hix45 => (first | (simp only [List.getElem?_toArray, List.getElem?_cons_zero, List.getElem?_cons_succ]; rfl) | rfl)
              case hQx45 => exact fun _ _ _ h => h
              case hwx45 => rfl
              case hyx45 => rfl
              try simp only [Act.put, List.setIfInBounds_toArray, List.set_cons_zero, List.set_cons_succ]
              refine wpAnyH_take (i := 14) (oi := ?oix46) (v := ?vx46) ?hix46 (by kernel_rfl) (by kernel_rfl) (by kernel_rfl) ?hQx46 (Or.inr ⟨?hwx46, ?hyx46⟩) (by assumption) ?restx46
              case hix46 => (first | (simp only [List.getElem?_toArray, List.getElem?_cons_zero, List.getElem?_cons_succ]; rfl) | rfl)
              case hQx46 => exact fun _ _ _ h => h
              case hwx46 => rfl
              case hyx46 => rfl
              try simp only [Act.put, List.setIfInBounds_toArray, List.set_cons_zero, List.set_cons_succ]
              refine wpAnyH_take (i := 15) (oi := ?oix47) (v := ?vx47) ?hix47 (by kernel_rfl) (by kernel_rfl) (by kernel_rfl) ?hQx47 (Or.inr ⟨?hwx47, ?hyx47⟩) (by assumption) ?restx47
              case hix47 => (first | (simp only [List.getElem?_toArray, List.getElem?_cons_zero, List.getElem?_cons_succ]; rfl) | rfl)
              case hQx47 => exact fun _ _ _ h => h
              case hwx47 => rfl
              case hyx47 => rfl
              try simp only [Act.put, List.setIfInBounds_toArray, List.set_cons_zero, List.set_cons_succ]
              refine wpAnyH_take (i := 16) (oi := ?oix48) (v := ?vx48) ?hix48 (by kernel_rfl) (by kernel_rfl) (by kernel_rfl) ?hQx48 (Or.inr ⟨?hwx48, ?hyx48⟩) (by assumption) ?restx48
              case hix48 => (first | (simp only [List.getElem?_toArray, List.getElem?_cons_zero, List.getElem?_cons_succ]; rfl) | rfl)
              case hQx48 => exact fun _ _ _ h => h
              case hwx48 => rfl
              case hyx48 => rfl
              try simp only [Act.put, List.setIfInBounds_toArray, List.set_cons_zero, List.set_cons_succ]
              refine wpAnyH_take (i := 17) (oi := ?oix49) (v := ?vx49) ?hix49 (by kernel_rfl) (by kernel_rfl) (by kernel_rfl) ?hQx49 (Or.inl ⟨?hwx49, ?hyx49⟩) (by assumption) ?restx49
              case hix49 => (first | (simp only [List.getElem?_toArray, List.getElem?_cons_zero, List.getElem?_cons_succ]; rfl) | rfl)
              case hQx49 => exact fun _ _ _ h => h
              case hwx49 => rfl
              case hyx49 => ((intro w hSw; go_simp); first | done | with_reducible rfl)
              try simp only [Act.put, List.setIfInBounds_toArray, List.set_cons_zero, List.set_cons_succ]
              refine wpAnyH_take (i := 18) (oi := ?oix50) (v := ?vx50) ?hix50 (by kernel_rfl) (by kernel_rfl) (by kernel_rfl) ?hQx50 (Or.inl ⟨?hwx50, ?hyx50⟩) (by assumption) ?restx50
              case hix50 => (first | (simp only [List.getElem?_toArray, List.getElem?_cons_zero, List.getElem?_cons_succ]; rfl) | rfl)
              case hQx50 => exact fun _ _ _ h => h
              case hwx50 => rfl
              case hyx50 => ((intro w hSw; go_simp); first | done | with_reducible rfl)
              try simp only [Act.put, List.setIfInBounds_toArray, List.set_cons_zero, List.set_cons_succ]
              refine wpAnyH_take (i := 19) (oi := ?oix51) (v := ?vx51) ?hix51 (by kernel_rfl) (by kernel_rfl) (by kernel_rfl) ?hQx51 (Or.inl ⟨?hwx51, ?hyx51⟩) (by assumption) ?restx51
              case hix51 => (first | (simp only [List.getElem?_toArray, List.getElem?_cons_zero, List.getElem?_cons_succ]; rfl) | rfl)
              case hQx51 => exact fun _ _ _ h => h
              case hwx51 => rfl
              case hyx51 => ((intro w hSw; go_simp); first | done | with_reducible rfl)
              try simp only [Act.put, List.setIfInBounds_toArray, List.set_cons_zero, List.set_cons_succ]
              refine wpAnyH_take (i := 20) (oi := ?oix52) (v := ?vx52) ?hix52 (by kernel_rfl) (by kernel_rfl) (by kernel_rfl) ?hQx52 (Or.inl ⟨?hwx52, ?hyx52⟩) (by assumption) ?restx52
              case hix52 => (first | (simp only [List.getElem?_toArray, List.getElem?_cons_zero, List.getElem?_cons_succ]; rfl) | rfl)
              case hQx52 => exact fun _ _ _ h => h
              case hwx52 => rfl
              case hyx52 => ((intro w hSw; go_simp); first | done | with_reducible rfl)
              try simp only [Act.put, List.setIfInBounds_toArray, List.set_cons_zero, List.set_cons_succ]
              refine wpAnyH_take (i := 21) (oi := ?oix53) (v := ?vx53) ?hix53 (by kernel_rfl) (by kernel_rfl) (by kernel_rfl) ?hQx53 (Or.inl ⟨?hwx53, ?hyx53⟩) (by assumption) ?restx53
              case hix53 => (first | (simp only [List.getElem?_toArray, List.getElem?_cons_zero, List.getElem?_cons_succ]; rfl) | rfl)
              case hQx53 => exact fun _ _ _ h => h
              case hwx53 => rfl
              case hyx53 => ((intro w hSw; go_simp); first | done | with_reducible rfl)
              try simp only [Act.put, List.setIfInBounds_toArray, List.set_cons_zero, List.set_cons_succ]
              refine wpAnyH_take (i := 22) (oi := ?oix54) (v := ?vx54) ?hix54 (by kernel_rfl) (by kernel_rfl) (by kernel_rfl) ?hQx54 (Or.inl ⟨?hwx54, ?hyx54⟩) (by assumption) ?restx54
              case hix54 => (first | (simp only [List.getElem?_toArray, List.getElem?_cons_zero, List.getElem?_cons_succ]; rfl) | rfl)
              case hQx54 => exact fun _ _ _ h => h
              case hwx54 => rfl
              case hyx54 => ((intro w hSw; go_simp); first | done | with_reducible rfl)
              try simp only [Act.put, List.setIfInBounds_toArray, List.set_cons_zero, List.set_cons_succ]
              refine wpAnyH_take (i := 23) (oi := ?oix55) (v := ?vx55) ?hix55 (by kernel_rfl) (by kernel_rfl) (by kernel_rfl) ?hQx55 (Or.inl ⟨?hwx55, ?hyx55⟩) (by assumption) ?restx55
              case hix55 => (first | (simp only [List.getElem?_toArray, List.getElem?_cons_zero, List.getElem?_cons_succ]; rfl) | rfl)
              case hQx55 => exact fun _ _ _ h => h
              case hwx55 => rfl
              case hyx55 => ((intro w hSw; go_simp); first | done | with_reducible rfl)
              try simp only [Act.put, List.setIfInBounds_toArray, List.set_cons_zero, List.set_cons_succ]
              refine wpAnyH_take (i := 24) (oi := ?oix56) (v := ?vx56) ?hix56 (by kernel_rfl) (by kernel_rfl) (by kernel_rfl) ?hQx56 (Or.inl ⟨?hwx56, ?hyx56⟩) (by assumption) ?restx56
              case hix56 => (first | (simp only [List.getElem?_toArray, List.getElem?_cons_zero, List.getElem?_cons_succ]; rfl) | rfl)
              case hQx56 => exact fun _ _ _ h => h
              case hwx56 => rfl
              case hyx56 => ((intro w hSw; obtain ⟨zs0, zs1, zs2, zs3, zs4⟩ := hSw; go_simp); first | done | with_reducible rfl)
              try simp only [Act.put, List.setIfInBounds_toArray, List.set_cons_zero, List.set_cons_succ]
              refine wpAnyH_take (i := 25) (oi := ?oix57) (v := ?vx57) ?hix57 (by kernel_rfl) (by kernel_rfl) (by kernel_rfl) ?hQx57 (Or.inl ⟨?hwx57, ?hyx57⟩) (by assumption) ?restx57
              case hix57 => (first | (simp only [List.getElem?_toArray, List.getElem?_cons_zero, List.getElem?_cons_succ]; rfl) | rfl)
              case hQx57 => exact fun _ _ _ h => h
              case hwx57 => rfl
              case hyx57 => ((intro w hSw; go_simp); first | done | with_reducible rfl)
              try simp only [Act.put, List.setIfInBounds_toArray, List.set_cons_zero, List.set_cons_succ]
              refine wpAnyH_take (i := 26) (oi := ?oix58) (v := ?vx58) ?hix58 (by kernel_rfl) (by kernel_rfl) (by kernel_rfl) ?hQx58 (Or.inl ⟨?hwx58, ?hyx58⟩) (by assumption) ?restx58
              case hix58 => (first | (simp only [List.getElem?_toArray, List.getElem?_cons_zero, List.getElem?_cons_succ]; rfl) | rfl)
              case hQx58 => exact fun _ _ _ h => h
              case hwx58 => rfl
              case hyx58 => ((intro w hSw; go_simp); first | done | with_reducible rfl)
              try simp only [Act.put, List.setIfInBounds_toArray, List.set_cons_zero, List.set_cons_succ]
              refine wpAnyH_take (i := 27) (oi := ?oix59) (v := ?vx59) ?hix59 (by kernel_rfl) (by kernel_rfl) (by kernel_rfl) ?hQx59 (Or.inl ⟨?hwx59, ?hyx59⟩) (by assumption) ?restx59
              case hix59 => (first | (simp only [List.getElem?_toArray, List.getElem?_cons_zero, List.getElem?_cons_succ]; rfl) | rfl)
              case hQx59 => exact fun _ _ _ h => h
              case hwx59 => rfl
              case hyx59 => ((intro w hSw; go_simp); first | done | with_reducible rfl)
              try simp only [Act.put, List.setIfInBounds_toArray, List.set_cons_zero, List.set_cons_succ]
              refine wpAnyH_take (i := 28) (oi := ?oix60) (v := ?vx60) ?hix60 (by kernel_rfl) (by kernel_rfl) (by kernel_rfl) ?hQx60 (Or.inl ⟨?hwx60, ?hyx60⟩) (by assumption) ?restx60
              case hix60 => (first | (simp only [List.getElem?_toArray, List.getElem?_cons_zero, List.getElem?_cons_succ]; rfl) | rfl)
              case hQx60 => exact fun _ _ _ h => h
              case hwx60 => rfl
              case hyx60 => ((intro w hSw; go_simp); first | done | with_reducible rfl)
              try simp only [Act.put, List.setIfInBounds_toArray, List.set_cons_zero, List.set_cons_succ]
              refine wpAnyH_take (i := 29) (oi := ?oix61) (v := ?vx61) ?hix61 (by kernel_rfl) (by kernel_rfl) (by kernel_rfl) ?hQx61 (Or.inl ⟨?hwx61, ?hyx61⟩) (by assumption) ?restx61
              case hix61 => (first | (simp only [List.getElem?_toArray, List.getElem?_cons_zero, List.getElem?_cons_succ]; rfl) | rfl)
              case hQx61 => exact fun _ _ _ h => h
              case hwx61 => rfl
              case hyx61 => ((intro w hSw; obtain ⟨zs0, zs1, zs2, zs3, zs4⟩ := hSw; go_simp); first | done | with_reducible rfl)
              try simp only [Act.put, List.setIfInBounds_toArray, List.set_cons_zero, List.set_cons_succ]
              refine wpAnyH_take (i := 30) (oi := ?oix62) (v := ?vx62) ?hix62 (by kernel_rfl) (by kernel_rfl) (by kernel_rfl) ?hQx62 (Or.inl ⟨?hwx62, ?hyx62⟩) (by assumption) ?restx62
              case hix62 => (first | (simp only [List.getElem?_toArray, List.getElem?_cons_zero, List.getElem?_cons_succ]; rfl) | rfl)
              case hQx62 => exact fun _ _ _ h => h
              case hwx62 => rfl
              case hyx62 => ((intro w hSw; go_simp); first | done | with_reducible rfl)
              try simp only [Act.put, List.setIfInBounds_toArray, List.set_cons_zero, List.set_cons_succ]
              refine wpAnyH_take (i := 31) (oi := ?oix63) (v := ?vx63) ?hix63 (by kernel_rfl) (by kernel_rfl) (by kernel_rfl) ?hQx63 (Or.inl ⟨?hwx63, ?hyx63⟩) (by assumption) ?restx63
              case hix63 => (first | (simp only [List.getElem?_toArray, List.getElem?_cons_zero, List.getElem?_cons_succ]; rfl) | rfl)
              case hQx63 => exact fun _ _ _ h => h
              case hwx63 => rfl
              case hyx63 => ((intro w hSw; go_simp); first | done | with_reducible rfl)
              try simp only [Act.put, List.setIfInBounds_toArray, List.set_cons_zero, List.set_cons_succ]
              refine wpAnyH_take (i := 32) (oi := ?oix64) (v := ?vx64) ?hix64 (by kernel_rfl) (by kernel_rfl) (by kernel_rfl) ?hQx64 (Or.inl ⟨?hwx64, ?hyx64⟩) (by assumption) ?restx64
              case hix64 => (first | (simp only [List.getElem?_toArray, List.getElem?_cons_zero, List.getElem?_cons_succ]; rfl) | rfl)
              case hQx64 => exact fun _ _ _ h => h
              case hwx64 => rfl
              case hyx64 => ((intro w hSw; go_simp); first | done | with_reducible rfl)
              try simp only [Act.put, List.setIfInBounds_toArray, List.set_cons_zero, List.set_cons_succ]
              refine wpAnyH_done (by kernel_rfl) ?_ _
              clear hHeld hHeld2
              clear hst HC
              have H48 := Lib.hid (below_then (below_then HB.out HB3r.out HB.out.size) HB8.out (Nat.le_trans HB.out.size HB3r.out.size))
              have hk8 := HBK3.out.below HB8.out HBK3.out.lt
              have j0 : ∀ q, (w8.drewN q).cell? ⟨wr.heap.size, 0, none⟩ = some (.int .i64 I) := fun _ => hk8.cell 0
              have j1 : ∀ q, (w8.drewN q).cell? ⟨wr.heap.size, 1, none⟩ = some (.int .i64 J) := fun _ => hk8.cell 1
              clear hk8
              by_cases hk0 : k = 0
              · have d7 : decide ((0 : Int) < (k : Int)) = false := decide_eq_false (by omega)
                go_wp2_with fail
                go_quiet (fail)
                have HBQ := Lib.hid (below_drewN H48.out nq)
                go_wp2
                go_roundw
                case rel => exact ⟨k + 1, by omega, by go_num, HBQ.out⟩
                case measure => simp [intOf]; omega
              · have d7 : decide ((0 : Int) < (k : Int)) = true := decide_eq_true (by omega)
                have d7i : (0 : Int) < (k : Int) := by omega
                have d7n : 0 < k := by omega
                have d7m : decide (0 < k) = true := decide_eq_true d7n
                obtain ⟨k', hk'⟩ : ∃ k', k = k' + 1 := ⟨k - 1, by omega⟩
                have hw7 : IntKind.i64.wrap ((k : Int) - 1) = (k' : Int) := by rw [show (k : Int) - 1 = (k' : Int) by omega]; exact IntWalk.i64_in _ (by omega)
                have p7 : (0 : Int) ≤ (k' : Int) := by omega
                have p8 : (k' : Int) < (a.length : Int) := by omega
                have p8n : k' < a.length := by omega
                obtain ⟨pb, y, hpb, hy, b0, b1, -, -⟩ := (HI4.out.below H48.out).at k' (by omega)
                obtain rfl : pa = pb := Option.some.inj hpb
                have hlt2 : ltP y ((I : Int), (J : Int)) := al_next (by rw [← HA.out]; exact hy) (by rw [← HA.out, ← hk']; exact HX.out)
                obtain ⟨y1, y2⟩ := y
                simp only at b0 b1
                have b0' : ∀ q, (w8.drewN q).cell? (pa.add (k' * 2)) = some (.int .i64 y1) := fun _ => b0
                have b1' : ∀ q, (w8.drewN q).cell? ⟨(pa.add (k' * 2)).block, (pa.add (k' * 2)).off + 1, none⟩ = some (.int .i64 y2) := fun _ => b1
                clear hpb hy b0 b1 hk'
                rcases hlt2 with hlt2 | ⟨hlt2, hlt3⟩
                · simp only at hlt2
                  have d8 : decide ((I : Int) < y1) = false := decide_eq_false (by omega)
                  have d9 : (y1 == (I : Int)) = false := by simp; omega
                  clear hlt2
                  go_wp2_with fail
                  go_quiet (fail)
                  have HBQ := Lib.hid (below_drewN H48.out nq)
                  go_wp2
                  go_roundw
                  case rel => exact ⟨k + 1, by omega, by go_num, HBQ.out⟩
                  case measure => simp [intOf]; omega
                · simp only at hlt2 hlt3
                  subst hlt2
                  have d8 : decide ((I : Int) < (I : Int)) = false := decide_eq_false (by omega)
                  have d9 : ((I : Int) == (I : Int)) = true := by simp
                  have d10 : decide ((J : Int) ≤ y2) = false := decide_eq_false (by omega)
                  clear hlt3
                  go_wp2_with fail
                  go_quiet (fail)
                  have HBQ := Lib.hid (below_drewN H48.out nq)
                  go_wp2
                  go_roundw
                  case rel => exact ⟨k + 1, by omega, by go_num, HBQ.out⟩
                  case measure => simp [intOf]; omega
          · have hge' : ¬ (k : Int) < (a.length : Int) := by omega
            have HFIN := Lib.hid (below_then HB4.out HB.out HB4.out.size)
            go_wp2
            go_ret
            exact ⟨rfl, HFIN.out⟩
end Go.Proofs.Ytjnbilcanfhkjaa
