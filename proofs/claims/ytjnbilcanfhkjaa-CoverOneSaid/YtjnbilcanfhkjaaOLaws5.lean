/- CoverOne. -/
import Derived.Test.YtjnbilcanfhkjaaOHead
import Derived.Test.YtjnbilcanfhkjaaOOne
import Derived.Test.YtjnbilcanfhkjaaOEq
import Derived.Deep.QuietTactic
import Derived.Deep.RegionHeld3
import Derived.Deep.DeepCutAuto
import Derived.BigQuiet
namespace Go.Proofs.Ytjnbilcanfhkjaa
open Go.RowKit Go.Maps Go.WideMaps
set_option linter.unusedSimpArgs false

set_option maxHeartbeats 8000000 in
set_option maxRecDepth 100000 in
theorem coverOne_any {K : World → Nat → List Nm → Prop} (hK : CoverOk K) (W : World) (A : Option Addr) (n ca : Nat) (L : List Nm) (hl : RowsSz W A n L) (h z : UInt8) :
    Calls Try.prog 6 #[.slice A n ca, .int .u8 (h.toNat : Nat), .int .u8 (z.toNat : Nat)] W fun e w' => e = .returned (.bool true) ∧ Below W.heap.size W w' := by
  have hep := eqCoverNil
  have HK := Lib.hid hK
  have HL := Lib.hid hl
  have HLEN := Lib.hid hl.1.len
  have hnz : n ≤ 140737488351232 := hl.2.2
  clear hl hK
  go_enter Try.func6, Try.ntmps6
  go_wp2_with fail
  refine (coverHead_any HK.out _).mono ?_
  rintro e w1 ⟨rfl, hb1⟩
  have HB1 := Lib.hid hb1
  clear hb1
  cases hr : rightB L with
  | false =>
    have HN := Lib.hid (HK.out.new_none w1 A n ca L (HL.out.1.below HB1.out) (by have := HL.out.2.2; omega) hr)
    clear hr
    go_wp2_with fail
    refine HN.out.mono ?_
    rintro e w2 ⟨rfl, hb2⟩
    have HB2 := Lib.hid (below_then HB1.out hb2 HB1.out.size)
    clear hb2
    go_wp2
    go_ret
    exact ⟨rfl, HB2.out⟩
  | true =>
    have HN := Lib.hid (HK.out.new w1 A n ca L (HL.out.1.below HB1.out) hr)
    have HR := Lib.hid hr
    clear hr
    go_wp2_with fail
    refine HN.out.mono ?_
    rintro e w2 ⟨b, rfl, hb2, hk2⟩
    have HB2 := Lib.hid (below_then HB1.out hb2 HB1.out.size)
    have HK2 := Lib.hid hk2
    have HG := Lib.hid (coverGreat_any w2 A none none n 0 0 ca 0 0 L ((HL.out.1.below HB1.out).below hb2) HL.out.2.1 HL.out.2.2 (by omega) (by omega))
    clear hb2 hk2
    go_wp2_with fail
    refine HG.out.mono ?_
    rintro e w3 ⟨r, rfl, hw3, hrr⟩
    obtain rfl := hw3
    cases r with
    | true =>
      clear hrr
      go_wp2
      go_ret
      exact ⟨rfl, HB2.out⟩
    | false =>
      obtain ⟨-, hn, -, -, -⟩ := hrr rfl
      clear hrr
      by_cases hn0 : n = 0
      · have d2 : ((n : Int) == 0) = true := by simp; omega
        go_wp2
        go_ret
        exact ⟨rfl, HB2.out⟩
      · have d2 : ((n : Int) == 0) = false := by simp; omega
        have hdz : (n : Int) ≠ 0 := by omega
        obtain ⟨W4, hW4⟩ : ∃ W4, W4 = w3.alloc (.cells #[.int .u8 (h.toNat : Nat)] 5) := ⟨_, rfl⟩
        obtain ⟨B1, hB1⟩ : ∃ B1, B1 = w3.heap.size := ⟨_, rfl⟩
        have hone : BytesIn W4 (some ⟨B1, 0, none⟩) 1 [h] := by rw [hW4, hB1]; exact const_in w3 [h] (0, 0) (by simp [maxLen])
        have hb4 : Below w3.heap.size w3 W4 := by rw [hW4]; exact (Below.refl _ w3).alloc (Nat.le_refl _) _
        have HB4 := Lib.hid (below_then HB2.out hb4 HB2.out.size)
        have HK4 := Lib.hid (HK.out.below HK2.out hb4)
        have HONE := Lib.hid hone
        have HW4 := Lib.hid hW4
        have HBB := Lib.hid hB1
        obtain ⟨a, ha⟩ : ∃ a, a = alUp L [h] L.length := ⟨_, rfl⟩
        have HC := Lib.hid (of_is HK.out HK4.out HR.out (some ⟨B1, 0, none⟩) 1 1 [h] hone (by omega) (by omega) ha.symm)
        have HA := Lib.hid ha
        have HAF := Lib.hid (by rw [ha]; exact al_few HR.out [h] : a.length ≤ 8192)
        clear hone hb4 hW4 hB1 ha
        go_wp2_with fail
        rw [← HW4.out, ← HBB.out]
        refine HC.out.mono ?_
        rintro e w5 ⟨X5, x5, rfl, hi5, hb5⟩
        have HI5 := Lib.hid hi5
        have HB5 := Lib.hid (below_then HB4.out hb5 HB4.out.size)
        have HK5 := Lib.hid (HK.out.below HK4.out hb5)
        have HO5 := Lib.hid (HONE.out.below hb5)
        have HL5 := Lib.hid (HL.out.1.below HB5.out)
        clear hi5 hb5 HC
        go_wp2
        go_loopw [11, 12] (fun v i wr => ∃ k : Nat, k ≤ n ∧ i = .int .i64 k ∧ v = .int .i64 ((alUp L [h] k).length : Nat) ∧ Below w5.heap.size w5 wr) (fun _ i _ => n - (intOf i).toNat)
        case atStart => exact ⟨0, by omega, rfl, rfl, Below.refl _ _⟩
        case round =>
          obtain ⟨k, hk, rfl, rfl, hB⟩ := hrel
          have HB := Lib.hid hB
          clear hB
          rcases Nat.lt_or_ge k n with hlt | hge
          · have hlt' : (k : Int) < (n : Int) := by omega
            have p0 : (0 : Int) ≤ (k : Int) := by omega
            obtain ⟨x, hx⟩ : ∃ x, L[k]? = some x := ⟨_, List.getElem?_eq_getElem (by rw [HLEN.out]; exact hlt)⟩
            have hgd : L.getD k [] = x := by rw [List.getD_eq_getElem?_getD, hx]; rfl
            have hup : alUp L [h] (k + 1) = alUp L [h] k ++ alT x [h] k x.length := by simp only [alUp]; rw [hgd]
            have hx16 : x.length ≤ 16 := right_16 HR.out hx
            have HUP := Lib.hid hup
            have HX := Lib.hid hx
            have HGD := Lib.hid hgd
            have hw5 : IntKind.i64.wrap ((k : Int) + 1) = (k : Int) + 1 := IntWalk.i64_in _ (by omega)
            clear hgd hup hx
            go_wp2
            go_loopw [11, 13] (fun v j wi => ∃ q : Nat, q ≤ x.length ∧ j = .int .i64 q ∧ v = .int .i64 ((alUp L [h] k).length + (alT x [h] k q).length : Nat) ∧ Below w5.heap.size w5 wi) (fun _ j _ => x.length - (intOf j).toNat)
            case atStart => exact ⟨0, by omega, rfl, by simp [alT], HB.out⟩
            case round =>
              obtain ⟨q, hq, rfl, rfl, hB2⟩ := hrel
              have HBi := Lib.hid hB2
              clear hB2
              obtain ⟨pa, Ax, cx, rfl, ea, ecx, ex⟩ := (HL5.out.below HBi.out).at_ k x HX.out
              have eaq : ∀ q, (wr.drewN q).cell? (pa.add k) = some (.slice Ax x.length cx) := fun _ => ea
              rcases Nat.lt_or_ge q x.length with hlt2 | hge2
              · have hlq : (q : Int) < (x.length : Int) := by omega
                have p1 : (0 : Int) ≤ (q : Int) := by omega
                have hw6 : IntKind.i64.wrap ((q : Int) + 1) = (q : Int) + 1 := IntWalk.i64_in _ (by omega)
                obtain ⟨px, y, rfl, hy, y0⟩ := ex.at q hlt2
                have hmay := may_one (h := h) hy
                obtain ⟨c, hc⟩ : ∃ c, c = (alUp L [h] k).length + (alT x [h] k q).length := ⟨_, rfl⟩
                rw [← hc]
                have HCC := Lib.hid hc
                cases hd : decide (y = h) with
                | true =>
                  obtain rfl : y = h := of_decide_eq_true hd
                  rw [hd] at hmay
                  have here := al_here (n := L.length) (by rw [HLEN.out]; exact hlt) HGD.out hlt2 hmay
                  rw [← HA.out, ← hc] at here
                  have hcl := (List.getElem?_eq_some_iff.1 here).1
                  have hca : c ≤ 8192 := by have := HAF.out; omega
                  have hnx : (alUp L [y] k).length + (alT x [y] k (q + 1)).length = c + 1 := by simp only [alT]; rw [if_pos hmay, List.length_append]; simp; omega
                  have hsu : sureB L [y] (k : Int) (q : Int) = true := by
                    unfold sureB
                    rw [Int.toNat_natCast, HGD.out, hmay]
                    have := HLEN.out
                    simp only [Bool.and_eq_true, decide_eq_true_eq, List.length_singleton]
                    refine ⟨by omega, by omega, trivial, by omega⟩
                  have d3 : decide ((a.length : Int) ≤ (c : Int)) = false := decide_eq_false (by omega)
                  have d3i : (c : Int) < (a.length : Int) := by omega
                  have dye : ((y.toNat : Int) != (y.toNat : Int)) = false := by simp
                  have dke : ((k : Int) != (k : Int)) = false := by simp
                  have dqe : ((q : Int) != (q : Int)) = false := by simp
                  have c0 : (0 : Int) ≤ (c : Int) := by omega
                  have hw7 : IntKind.i64.wrap ((c : Int) + 1) = (c : Int) + 1 := IntWalk.i64_in _ (by omega)
                  obtain ⟨pl, v, rfl, hv, v0, v1, f0, f1⟩ := (HI5.out.below HBi.out).at c hcl
                  obtain rfl : ((k : Int), (q : Int)) = v := by rw [here] at hv; exact Option.some.inj hv
                  simp only at v0 v1 f0 f1
                  have HC := Lib.hid (sure_is HK.out (HK.out.below HK5.out HBi.out) HR.out (some ⟨B1, 0, none⟩) 1 1 [y] (HO5.out.below HBi.out) (by omega) (by omega) f0 f1 hsu)
                  have HNX := Lib.hid hnx
                  clear here hv f0 f1 hsu hnx hmay hd hy hc ex ecx
                  go_wp2_with fail
                  refine HC.out.mono ?_
                  rintro e w8 ⟨rfl, hb8⟩
                  have HB8 := Lib.hid (below_then HBi.out hb8 HBi.out.size)
                  clear hb8 HC
                  go_wp2
                  go_roundw
                  case rel => exact ⟨q + 1, by omega, by go_num, by rw [HNX.out]; go_num, HB8.out⟩
                  case measure => simp [intOf]; omega
                | false =>
                  rw [hd] at hmay
                  have hyn := of_decide_eq_false hd
                  have hyt : y.toNat ≠ h.toNat := fun e => hyn (UInt8.toNat_inj.1 e)
                  have dye : ((y.toNat : Int) != (h.toNat : Int)) = true := by simp; omega
                  have hnx : (alUp L [h] k).length + (alT x [h] k (q + 1)).length = c := by simp only [alT]; rw [if_neg (by rw [hmay]; simp)]; omega
                  have HNX := Lib.hid hnx
                  clear hnx hmay hd hyn hy hc ex ecx
                  go_wp2
                  go_roundw
                  case rel => exact ⟨q + 1, by omega, by go_num, by rw [HNX.out], HBi.out⟩
                  case measure => simp [intOf]; omega
              · obtain rfl : q = x.length := by omega
                have hlz : ¬ ((x.length : Int) < (x.length : Int)) := by omega
                have hle : (alUp L [h] (k + 1)).length = (alUp L [h] k).length + (alT x [h] k x.length).length := by rw [HUP.out, List.length_append]
                have HLE := Lib.hid hle
                clear ex hle
                go_wp2
                exact ⟨⟨k + 1, by omega, by go_num, by rw [HLE.out], HBi.out⟩, by simp [intOf]; omega⟩
          · obtain rfl : k = n := by omega
            have hlz : ¬ ((k : Int) < (k : Int)) := by omega
            have hall : alUp L [h] k = a := by rw [HA.out, HLEN.out]
            rw [hall]
            clear hall
            have dll : ((a.length : Int) != (a.length : Int)) = false := by simp
            have hzk : IntKind.i64.wrap (z.toNat : Int) = (z.toNat : Int) := IntWalk.i64_in _ (by have := z.toNat_lt; omega)
            obtain ⟨q, hq⟩ : ∃ q, q = z.toNat % k := ⟨_, rfl⟩
            have hqk : q < k := by rw [hq]; exact Nat.mod_lt _ (by omega)
            have hmod : (z.toNat : Int).tmod (k : Int) = (q : Int) := by rw [hq, Int.tmod_eq_emod_of_nonneg (by omega)]; simp
            have q0 : (0 : Int) ≤ (q : Int) := by omega
            have q1 : (q : Int) < (k : Int) := by omega
            obtain ⟨t, ht⟩ : ∃ t, L[q]? = some t := ⟨_, List.getElem?_eq_getElem (by rw [HLEN.out]; exact hqk)⟩
            have hgd : L.getD q [] = t := by rw [List.getD_eq_getElem?_getD, ht]; rfl
            have ht16 : t.length ≤ 16 := right_16 HR.out ht
            obtain ⟨pt, At, ct, rfl, et, ect, ext⟩ := (HL5.out.below HB.out).at_ q t ht
            have HGD := Lib.hid hgd
            have HEXT := Lib.hid ext
            have HFIN := Lib.hid (below_then HB5.out HB.out HB5.out.size)
            clear hq ht hgd ext
            by_cases ht0 : t.length = 0
            · have d7 : ((t.length : Int) == 0) = true := by rw [ht0]; rfl
              go_wp2
              go_ret
              exact ⟨rfl, HFIN.out⟩
            · have d7 : ((t.length : Int) == 0) = false := beq_eq_false_iff_ne.2 (fun e => ht0 (by omega))
              obtain ⟨W6, hW6⟩ : ∃ W6, W6 = wr.alloc (.cells #[.int .i64 (q : Int), .int .i64 0] 26) := ⟨_, rfl⟩
              have hbk : Blk W6 wr.heap.size 26 #[.int .i64 (q : Int), .int .i64 0] := by rw [hW6]; exact Blk.new _ _ _
              have hb6 : Below wr.heap.size wr W6 := by rw [hW6]; exact (Below.refl _ wr).alloc (Nat.le_refl _) _
              have et6 : W6.cell? (pt.add q) = some (.slice At t.length ct) := below_cells hb6 et
              obtain ⟨B2, hB2⟩ : ∃ B2, B2 = wr.heap.size := ⟨_, rfl⟩
              rw [← hB2] at hbk
              have HBK6 := Lib.hid hbk
              have HW6 := Lib.hid hW6
              have HB22 := Lib.hid hB2
              have H56 := Lib.hid (below_then HB.out hb6 HB.out.size)
              obtain ⟨a2, ha2⟩ : ∃ a2, a2 = alUp L t L.length := ⟨_, rfl⟩
              have HC := Lib.hid (of_is HK.out (HK.out.below HK5.out H56.out) HR.out At t.length ct t (HEXT.out.below hb6) ect (by omega) ha2.symm)
              have hown : ((q : Int), (0 : Int)) ∈ a2 := by rw [ha2]; exact own_in (by rw [HLEN.out]; exact hqk) HGD.out (by omega)
              have hsu : sureB L t (q : Int) 0 = true := by
                unfold sureB
                rw [Int.toNat_natCast, HGD.out, show (0 : Int) = ((0 : Nat) : Int) from rfl, may_self (by omega)]
                have := HLEN.out
                simp only [Bool.and_eq_true, decide_eq_true_eq]
                refine ⟨by omega, by omega, trivial, by omega⟩
              have HSU := Lib.hid hsu
              have HOWN := Lib.hid hown
              have HAF2 := Lib.hid (by rw [ha2]; exact al_few HR.out t : a2.length ≤ 8192)
              have HT6 := Lib.hid (HEXT.out.below hb6)
              have HET6 := Lib.hid et6
              have hFF := below_then HB5.out H56.out HB5.out.size
              have HFF := Lib.hid hFF
              clear hbk hb6 hW6 hB2 ha2 hown hsu hFF
              go_upto_region 24 with fail
              rw [← HW6.out, ← HB22.out]
              clear et
              go_wp2_with fail
              refine HC.out.mono ?_
              rintro e w7 ⟨X7, x7, rfl, hi7, hb7⟩
              have HI7 := Lib.hid hi7
              have H57 := Lib.hid (below_then H56.out hb7 H56.out.size)
              have HF7 := Lib.hid (below_then HFF.out hb7 HFF.out.size)
              have HBK7 := Lib.hid (HBK6.out.below hb7 HBK6.out.lt)
              have HT7 := Lib.hid (HT6.out.below hb7)
              have HET7 := Lib.hid (below_cells hb7 HET6.out)
              clear hi7 hb7 HC et6
              go_wp2
              go_loopw [17, 18] (fun v i wi => ∃ (k : Nat) (r : Bool), k ≤ a2.length ∧ i = .int .i64 k ∧ v = .bool r ∧ (r = true ↔ ((q : Int), (0 : Int)) ∈ a2.take k) ∧ Below w7.heap.size w7 wi) (fun _ i _ => a2.length - (intOf i).toNat)
              case atStart => exact ⟨0, false, by omega, rfl, rfl, by simp, Below.refl _ _⟩
              case round =>
                obtain ⟨g, r, hg, rfl, rfl, hr, hB⟩ := hrel
                have HBj := Lib.hid hB
                have HRJ := Lib.hid hr
                have ha28 := HAF2.out
                clear hB hr
                have hkk := HBK7.out.below HBj.out HBK7.out.lt
                have j0 : ∀ q', (wr.drewN q').cell? ⟨B2, 0, none⟩ = some (.int .i64 (q : Int)) := fun _ => hkk.cell 0
                have j1 : ∀ q', (wr.drewN q').cell? ⟨B2, 1, none⟩ = some (.int .i64 0) := fun _ => hkk.cell 1
                rcases Nat.lt_or_ge g a2.length with hlt2 | hge2
                · have hlg : (g : Int) < (a2.length : Int) := by omega
                  have g0 : (0 : Int) ≤ (g : Int) := by omega
                  have hw8 : IntKind.i64.wrap ((g : Int) + 1) = (g : Int) + 1 := IntWalk.i64_in _ (by omega)
                  obtain ⟨pl, v, rfl, hv, v0, v1, -, -⟩ := (HI7.out.below HBj.out).at g hlt2
                  obtain ⟨y1, y2⟩ := v
                  simp only at v0 v1
                  have v0' : ∀ q', (wr.drewN q').cell? (pl.add (g * 2)) = some (.int .i64 y1) := fun _ => v0
                  have v1' : ∀ q', (wr.drewN q').cell? ⟨(pl.add (g * 2)).block, (pl.add (g * 2)).off + 1, none⟩ = some (.int .i64 y2) := fun _ => v1
                  have htk : a2.take (g + 1) = a2.take g ++ [(y1, y2)] := by rw [List.take_add_one, hv]; rfl
                  have HTK := Lib.hid htk
                  clear hv htk v0 v1 hkk
                  cases r with
                  | true =>
                    have hin := HRJ.out.1 rfl
                    have HKEY : Hid (true = true ↔ ((q : Int), (0 : Int)) ∈ a2.take (g + 1)) := Lib.hid ⟨fun _ => by rw [HTK.out]; exact List.mem_append.2 (.inl hin), fun _ => rfl⟩
                    clear hin HRJ
                    go_wp2_with fail
                    go_quiet (fail)
                    have HBQ := Lib.hid (below_drewN HBj.out nq)
                    go_wp2
                    go_roundw
                    case rel => exact ⟨g + 1, true, by omega, by go_num, rfl, (by first | exact HKEY.out | simpa using HKEY.out), HBQ.out⟩
                    case measure => simp [intOf]; omega
                  | false =>
                    have hnot : ((q : Int), (0 : Int)) ∉ a2.take g := fun e => by have := HRJ.out.2 e; cases this
                    have HNOT := Lib.hid hnot
                    clear hnot
                    cases hd : ((y1 == (q : Int)) && (y2 == 0)) with
                    | true =>
                      have heq := eqAlign y1 y2 (q : Int) 0 hd
                      simp only [Bool.and_eq_true, beq_iff_eq] at hd
                      have HKEY : Hid (true = true ↔ ((q : Int), (0 : Int)) ∈ a2.take (g + 1)) := Lib.hid ⟨fun _ => by rw [HTK.out]; exact List.mem_append.2 (.inr (List.mem_singleton.2 (Prod.ext hd.1.symm hd.2.symm))), fun _ => rfl⟩
                      clear hd HRJ
                      go_wp2_with fail
                      go_quiet (fail)
                      have HBQ := Lib.hid (below_drewN HBj.out nq)
                      go_wp2
                      go_roundw
                      case rel => exact ⟨g + 1, true, by omega, by go_num, rfl, (by first | exact HKEY.out | simpa using HKEY.out), HBQ.out⟩
                      case measure => simp [intOf]; omega
                    | false =>
                      have heq := eqAlign y1 y2 (q : Int) 0 hd
                      have hyq : ((q : Int), (0 : Int)) ≠ (y1, y2) := fun e => by
                        simp only [Prod.mk.injEq] at e
                        obtain ⟨rfl, rfl⟩ := e
                        simp at hd
                      have HKEY : Hid (false = true ↔ ((q : Int), (0 : Int)) ∈ a2.take (g + 1)) := Lib.hid (by
                        rw [HTK.out, List.mem_append, List.mem_singleton]
                        constructor
                        · intro e; cases e
                        · rintro (e | e)
                          · exact absurd e HNOT.out
                          · exact absurd e hyq)
                      clear hyq HRJ
                      go_wp2_with fail
                      go_quiet (fail)
                      have HBQ := Lib.hid (below_drewN HBj.out nq)
                      go_wp2
                      go_roundw
                      case rel => exact ⟨g + 1, false, by omega, by go_num, rfl, (by first | exact HKEY.out | simpa using HKEY.out), HBQ.out⟩
                      case measure => simp [intOf]; omega
                · have hlz2 : ¬ (g : Int) < (a2.length : Int) := by omega
                  obtain rfl : r = true := HRJ.out.2 (by rw [List.take_of_length_le hge2]; exact HOWN.out)
                  have hT := HT7.out.below HBj.out
                  have hE := below_cells HBj.out HET7.out
                  have HTj := Lib.hid hT
                  have HEj := Lib.hid hE
                  have HBKj := Lib.hid hkk
                  have HFj := Lib.hid (below_then HF7.out HBj.out HF7.out.size)
                  have HC := Lib.hid (fun q' => sure_is HK.out (HK.out.below (HK.out.below HK5.out (below_then H57.out HBj.out H57.out.size)) (below_drewN (Below.refl _ _) q')) HR.out At t.length ct t (hT.drewN q') ect (by omega) (by unfold fits64; omega : fits64 (q : Int)) (by unfold fits64; omega : fits64 0) HSU.out)
                  clear hT hE hkk
                  have hS : ∀ w', Below wr.heap.size wr w' → (fun w' => w'.cell? ⟨B2, 0, none⟩ = some (.int .i64 (q : Int)) ∧ w'.cell? ⟨B2, 1, none⟩ = some (.int .i64 0) ∧ w'.cell? (pt.add q) = some (.slice At t.length ct) ∧ Below wr.heap.size wr w') w' := fun w' hb => ⟨(HBKj.out.below hb HBKj.out.lt).cell 0, (HBKj.out.below hb HBKj.out.lt).cell 1, below_cells hb HEj.out, hb⟩
                  have HSA := Lib.hid hS
                  clear hS j0 j1
                  go_wp2_with fail
                  refine wp_region_held_drew (S := fun w' => w'.cell? ⟨B2, 0, none⟩ = some (.int .i64 (q : Int)) ∧ w'.cell? ⟨B2, 1, none⟩ = some (.int .i64 0) ∧ w'.cell? (pt.add q) = some (.slice At t.length ct) ∧ Below wr.heap.size wr w') (by kernel_rfl) ?_ (fun hHeld => ?_)
                  · exact HSA.out _ (Below.refl _ _).drew
                  refine wpAnyH_take (i := 0) (oi := ?oix1) (v := ?vx1) ?hix1 (by kernel_rfl) (by kernel_rfl) (by kernel_rfl) ?hQx1 (Or.inl ⟨?hwx1, ?hyx1⟩) (by assumption) ?restx1
                  case hix1 => (first | (simp only [List.getElem?_toArray, List.getElem?_cons_zero, List.getElem?_cons_succ]; rfl) | rfl)
                  case hQx1 => exact fun _ _ _ h => h
                  case hwx1 => rfl
                  case hyx1 => ((intro w hSw; go_simp); first | done | with_reducible rfl)
                  try simp only [Act.put, List.setIfInBounds_toArray, List.set_cons_zero, List.set_cons_succ]
                  refine wpAnyH_take (i := 1) (oi := ?oix2) (v := ?vx2) ?hix2 (by kernel_rfl) (by kernel_rfl) (by kernel_rfl) ?hQx2 (Or.inl ⟨?hwx2, ?hyx2⟩) (by assumption) ?restx2
                  case hix2 => (first | (simp only [List.getElem?_toArray, List.getElem?_cons_zero, List.getElem?_cons_succ]; rfl) | rfl)
                  case hQx2 => exact fun _ _ _ h => h
                  case hwx2 => rfl
                  case hyx2 => ((intro w hSw; go_simp); first | done | with_reducible rfl)
                  try simp only [Act.put, List.setIfInBounds_toArray, List.set_cons_zero, List.set_cons_succ]
                  refine wpAnyH_take (i := 2) (oi := ?oix3) (v := ?vx3) ?hix3 (by kernel_rfl) (by kernel_rfl) (by kernel_rfl) ?hQx3 (Or.inl ⟨?hwx3, ?hyx3⟩) (by assumption) ?restx3
                  case hix3 => (first | (simp only [List.getElem?_toArray, List.getElem?_cons_zero, List.getElem?_cons_succ]; rfl) | rfl)
                  case hQx3 => exact fun _ _ _ h => h
                  case hwx3 => rfl
                  case hyx3 => ((intro w hSw; go_simp); first | done | with_reducible rfl)
                  try simp only [Act.put, List.setIfInBounds_toArray, List.set_cons_zero, List.set_cons_succ]
                  refine wpAnyH_take (i := 3) (oi := ?oix4) (v := ?vx4) ?hix4 (by kernel_rfl) (by kernel_rfl) (by kernel_rfl) ?hQx4 (Or.inl ⟨?hwx4, ?hyx4⟩) (by assumption) ?restx4
                  case hix4 => (first | (simp only [List.getElem?_toArray, List.getElem?_cons_zero, List.getElem?_cons_succ]; rfl) | rfl)
                  case hQx4 => exact fun _ _ _ h => h
                  case hwx4 => rfl
                  case hyx4 => ((intro w hSw; go_simp); first | done | with_reducible rfl)
                  try simp only [Act.put, List.setIfInBounds_toArray, List.set_cons_zero, List.set_cons_succ]
                  refine wpAnyH_take (i := 4) (oi := ?oix5) (v := ?vx5) ?hix5 (by kernel_rfl) (by kernel_rfl) (by kernel_rfl) ?hQx5 (Or.inl ⟨?hwx5, ?hyx5⟩) (by assumption) ?restx5
                  case hix5 => (first | (simp only [List.getElem?_toArray, List.getElem?_cons_zero, List.getElem?_cons_succ]; rfl) | rfl)
                  case hQx5 => exact fun _ _ _ h => h
                  case hwx5 => rfl
                  case hyx5 => ((intro w hSw; go_simp); first | done | with_reducible rfl)
                  try simp only [Act.put, List.setIfInBounds_toArray, List.set_cons_zero, List.set_cons_succ]
                  refine wpAnyH_take (i := 5) (oi := ?oix6) (v := ?vx6) ?hix6 (by kernel_rfl) (by kernel_rfl) (by kernel_rfl) ?hQx6 (Or.inl ⟨?hwx6, ?hyx6⟩) (by assumption) ?restx6
                  case hix6 => (first | (simp only [List.getElem?_toArray, List.getElem?_cons_zero, List.getElem?_cons_succ]; rfl) | rfl)
                  case hQx6 => exact fun _ _ _ h => h
                  case hwx6 => rfl
                  case hyx6 => ((intro w hSw; go_simp); first | done | with_reducible rfl)
                  try simp only [Act.put, List.setIfInBounds_toArray, List.set_cons_zero, List.set_cons_succ]
                  refine wpAnyH_take (i := 6) (oi := ?oix7) (v := ?vx7) ?hix7 (by kernel_rfl) (by kernel_rfl) (by kernel_rfl) ?hQx7 (Or.inl ⟨?hwx7, ?hyx7⟩) (by assumption) ?restx7
                  case hix7 => (first | (simp only [List.getElem?_toArray, List.getElem?_cons_zero, List.getElem?_cons_succ]; rfl) | rfl)
                  case hQx7 => exact fun _ _ _ h => h
                  case hwx7 => rfl
                  case hyx7 => ((intro w hSw; go_simp); first | done | with_reducible rfl)
                  try simp only [Act.put, List.setIfInBounds_toArray, List.set_cons_zero, List.set_cons_succ]
                  refine wpAnyH_take (i := 7) (oi := ?oix8) (v := ?vx8) ?hix8 (by kernel_rfl) (by kernel_rfl) (by kernel_rfl) ?hQx8 (Or.inl ⟨?hwx8, ?hyx8⟩) (by assumption) ?restx8
                  case hix8 => (first | (simp only [List.getElem?_toArray, List.getElem?_cons_zero, List.getElem?_cons_succ]; rfl) | rfl)
                  case hQx8 => exact fun _ _ _ h => h
                  case hwx8 => rfl
                  case hyx8 => ((intro w hSw; go_simp); first | done | with_reducible rfl)
                  try simp only [Act.put, List.setIfInBounds_toArray, List.set_cons_zero, List.set_cons_succ]
                  refine wpAnyH_take (i := 8) (oi := ?oix9) (v := ?vx9) ?hix9 (by kernel_rfl) (by kernel_rfl) (by kernel_rfl) ?hQx9 (Or.inl ⟨?hwx9, ?hyx9⟩) (by assumption) ?restx9
                  case hix9 => (first | (simp only [List.getElem?_toArray, List.getElem?_cons_zero, List.getElem?_cons_succ]; rfl) | rfl)
                  case hQx9 => exact fun _ _ _ h => h
                  case hwx9 => rfl
                  case hyx9 => ((intro w hSw; go_simp); first | done | with_reducible rfl)
                  try simp only [Act.put, List.setIfInBounds_toArray, List.set_cons_zero, List.set_cons_succ]
                  refine wpAnyH_take (i := 9) (oi := ?oix10) (v := ?vx10) ?hix10 (by kernel_rfl) (by kernel_rfl) (by kernel_rfl) ?hQx10 (Or.inl ⟨?hwx10, ?hyx10⟩) (by assumption) ?restx10
                  case hix10 => (first | (simp only [List.getElem?_toArray, List.getElem?_cons_zero, List.getElem?_cons_succ]; rfl) | rfl)
                  case hQx10 => exact fun _ _ _ h => h
                  case hwx10 => rfl
                  case hyx10 => ((intro w hSw; obtain ⟨zs0, zs1, zs2, zs3⟩ := hSw; go_simp); first | done | with_reducible rfl)
                  try simp only [Act.put, List.setIfInBounds_toArray, List.set_cons_zero, List.set_cons_succ]
                  refine wpAnyH_take (i := 10) (oi := ?oix11) (v := ?vx11) ?hix11 (by kernel_rfl) (by kernel_rfl) (by kernel_rfl) ?hQx11 (Or.inl ⟨?hwx11, ?hyx11⟩) (by assumption) ?restx11
                  case hix11 => (first | (simp only [List.getElem?_toArray, List.getElem?_cons_zero, List.getElem?_cons_succ]; rfl) | rfl)
                  case hQx11 => exact fun _ _ _ h => h
                  case hwx11 => rfl
                  case hyx11 => ((intro w hSw; obtain ⟨zs0, zs1, zs2, zs3⟩ := hSw; go_simp); first | done | with_reducible rfl)
                  try simp only [Act.put, List.setIfInBounds_toArray, List.set_cons_zero, List.set_cons_succ]
                  refine wpAnyH_ready (rs := [11]) (by kernel_rfl) (by simp) ?_
                  refine AllReadyH.cons (o := ?oc) ?hcc ?stc AllReadyH.nil
                  case hcc => (simp only [List.getElem?_toArray, List.getElem?_cons_zero, List.getElem?_cons_succ]; rfl)
                  intro K hK
                  go_simp
                  refine (HC.out 1).mono ?_
                  rintro e w8 ⟨rfl, hb8⟩
                  have HB8 := Lib.hid (below_then (below_drewN (Below.refl wr.heap.size wr) 1) hb8 (Nat.le_refl _))
                  clear hb8
                  go_wp2_with fail
                  refine hK.out _ _ (HSA.out _ HB8.out) (fun hHeld2 => ?_)
                  clear hK K
                  try simp only [Act.put, List.setIfInBounds_toArray, List.set_cons_zero, List.set_cons_succ]
                  refine wpAnyH_take (i := 12) (oi := ?oix12) (v := ?vx12) ?hix12 (by kernel_rfl) (by kernel_rfl) (by kernel_rfl) ?hQx12 (Or.inl ⟨?hwx12, ?hyx12⟩) (by assumption) ?restx12
                  case hix12 => (first | (simp only [List.getElem?_toArray, List.getElem?_cons_zero, List.getElem?_cons_succ]; rfl) | rfl)
                  case hQx12 => exact fun _ _ _ h => h
                  case hwx12 => rfl
                  case hyx12 => ((intro w hSw; go_simp); first | done | with_reducible rfl)
                  try simp only [Act.put, List.setIfInBounds_toArray, List.set_cons_zero, List.set_cons_succ]
                  refine wpAnyH_take (i := 13) (oi := ?oix13) (v := ?vx13) ?hix13 (by kernel_rfl) (by kernel_rfl) (by kernel_rfl) ?hQx13 (Or.inl ⟨?hwx13, ?hyx13⟩) (by assumption) ?restx13
                  case hix13 => (first | (simp only [List.getElem?_toArray, List.getElem?_cons_zero, List.getElem?_cons_succ]; rfl) | rfl)
                  case hQx13 => exact fun _ _ _ h => h
                  case hwx13 => rfl
                  case hyx13 => ((intro w hSw; go_simp); first | done | with_reducible rfl)
                  try simp only [Act.put, List.setIfInBounds_toArray, List.set_cons_zero, List.set_cons_succ]
                  refine wpAnyH_done (by kernel_rfl) ?_ _
                  clear hHeld hHeld2
                  have HZ := Lib.hid (below_then HFj.out HB8.out HFj.out.size)
                  go_wp2
                  go_ret
                  exact ⟨rfl, HZ.out⟩
end Go.Proofs.Ytjnbilcanfhkjaa
