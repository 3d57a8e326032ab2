/- The landed dels: Get. -/
import Derived.Test.YtdmhaaplgkilpaaDpMath
import Derived.Test.YtdmhaaplgkilpaaDpPut
import Derived.Test.YtdmhaaplgkilpaaFProg2
import Derived.Deep.RegionHeld3
import Derived.Laws.CopyOwn
namespace Go.Proofs.Ytdmhaaplgkilpaa
open Go.RowKit Go.Maps Go.WideMaps
set_option linter.unusedSimpArgs false

/-- Bytes copied onto eight zero ones. -/
def overB (r : List UInt8) : List UInt8 := r ++ noB.drop r.length
theorem overB_len {r : List UInt8} (h : r.length ≤ 8) : (overB r).length = 8 := by
  unfold overB
  rw [List.length_append, List.length_drop]
  show r.length + (8 - r.length) = 8
  omega
theorem overB_bit (r : List UInt8) (i : Nat) : bitOf (overB r) i = bitOf r i := by
  unfold bitOf overB
  congr 1
  rw [List.getD_eq_getElem?_getD, List.getD_eq_getElem?_getD, List.getElem?_append]
  split
  · rfl
  · rename_i h1
    rw [List.getElem?_eq_none (l := r) (by omega), Option.getD_none, List.getElem?_drop]
    have := noB_bit
    have key : ∀ k : Nat, (noB[k]?.getD 0) = 0 := fun k => by
      rcases Nat.lt_or_ge k 8 with h | h
      · have key : ∀ k : Nat, k < 8 → noB[k]?.getD 0 = 0 := by decide
        exact key _ h
      · rw [List.getElem?_eq_none (by exact h), Option.getD_none]
    rw [key]
theorem overB_cells (n : Nat) (r : List UInt8) : splice (Value.int .i64 n :: noB.map byteV) 1 (r.map byteV) = Value.int .i64 n :: (overB r).map byteV := by
  unfold splice overB
  rw [List.length_map, Nat.add_comm 1 r.length, List.drop_succ_cons, List.map_append, List.map_drop]
  simp
/-- What Get gives. -/
def DGetOut (w : World) (x : Nm) (e : Ending) (w' : World) : Prop := Below w.heap.size w w' ∧ match dGet x with
  | none => e = .returned (.tuple #[.pointer none, .int .i64 3])
  | some s => ∃ b, e = .returned (.tuple #[.pointer (some ⟨b, 0, none⟩), .int .i64 0]) ∧ w.heap.size ≤ b ∧ ∃ l, IsB w' b s.n l ∧ ∀ i, i < 64 → bitOf l i = (decide (i < s.n) && s.f i)
theorem DGetOut.none_ {w w' : World} {x : Nm} (h : dGet x = none) (hb : Below w.heap.size w w') : DGetOut w x (.returned (.tuple #[.pointer none, .int .i64 3])) w' := by
  refine ⟨hb, ?_⟩
  rw [h]

set_option maxHeartbeats 16000000 in
set_option maxRecDepth 100000 in
theorem dpGet_any (w : World) (A : Option Addr) (n c : Nat) (x : Nm) (hx : BytesIn w A n x) (hc : n ≤ c) (hn : n ≤ 1000000) :
    Calls Try.prog 8 #[.slice A n c] w (DGetOut w x) := by
  obtain ⟨i0, hi, hz0, hz1, hz2⟩ := info_parts byteInfo
  have hln : x.length = n := by have := hx.2.1.len; simpa using this
  have HCF := Lib.hid (fGet_any w A n c x hx hc (by omega))
  have HLN := Lib.hid hln
  obtain ⟨X, m, e, hg⟩ : ∃ X m e, getF x = (X, m, e) := ⟨_, _, _, rfl⟩
  have hfr := dGet_frame hg
  have hXl : X.length ≤ 262144 := by have := getF_len' x; rw [hg] at this; exact this
  have hm : m ≤ n := by
    have h1 := getF_err x
    rw [hg] at h1
    rcases h1 with h1 | h1
    · have h2 := getF_step (c := x) (by rw [hg]; exact h1)
      rw [hg] at h2
      simp only at h2
      omega
    · simp only at h1
      omega
  rw [hg] at HCF
  rw [hln] at hfr
  have HFR := Lib.hid hfr
  clear hx hg hfr hln
  by_cases he : e = 0
  · subst he
    by_cases hmn : m < n
    · have HNO : Hid (dGet x = none) := Lib.hid (by rw [HFR.out, if_pos (.inr hmn)])
      have hmn' : (m : Int) < (n : Int) := by omega
      clear HFR
      go_enter Try.func8, Try.ntmps8
      go_wp2_with fail
      refine HCF.out.mono ?_
      rintro e w1 ⟨v1, rfl, ho1, hb1⟩
      have HB1 := Lib.hid hb1
      clear ho1 hb1
      go_wp2
      go_ret2
      exact DGetOut.none_ HNO.out HB1.out
    · have HR : Hid (dGet x = dRead X) := Lib.hid (by rw [HFR.out, if_neg (by omega)])
      have hmn' : ¬ (m : Int) < (n : Int) := by omega
      clear HFR
      obtain ⟨v, k, e2, hg2⟩ : ∃ v k e2, getL X = (v, k, e2) := ⟨_, _, _, rfl⟩
      have HRD := Lib.hid (dRead_is hg2)
      go_enter Try.func8, Try.ntmps8
      go_wp2_with fail
      refine HCF.out.mono ?_
      rintro e w1 ⟨v1, rfl, ho1, hb1⟩
      obtain ⟨A1, c1, hv1⟩ := own_slice ho1
      subst hv1
      have HB1 := Lib.hid hb1
      have hcap := rowCap_le ho1
      have hbi := BytesIn.own ho1 (by simp only; unfold maxLen; omega)
      simp only at hcap hbi
      have HX1 := Lib.hid hbi
      have HCG := Lib.hid (lGet_is w1 A1 X.length c1 X hbi hg2)
      obtain ⟨nX, hnX⟩ : ∃ nX, nX = X.length := ⟨_, rfl⟩
      simp only
      rw [← hnX] at HCG HX1 hcap hXl HRD ⊢
      have HNX := Lib.hid hnX
      clear ho1 hb1 hbi hnX HCF
      by_cases he2 : e2 = 0
      · subst he2
        obtain ⟨-, hk10, hkX, -, hv64⟩ := getL_inv hg2
        rw [← HNX.out] at hkX
        have HG2 := Lib.hid hg2
        clear hg2
        by_cases hv : 64 < v
        · have HNO : Hid (dGet x = none) := Lib.hid (by rw [HR.out, HRD.out, if_pos (.inr hv)])
          have hv' : (64 : Int) < (v : Int) := by omega
          go_wp2_with fail
          refine HCG.out.mono ?_
          rintro e w2 ⟨rfl, rfl⟩
          go_wp2
          go_ret2
          exact DGetOut.none_ HNO.out HB1.out
        · have hv' : ¬ (64 : Int) < (v : Int) := by omega
          have HRD2 : Hid (dGet x = if nX - k ≠ (v + 7) / 8 then none else if ((List.range 64).any fun i => decide (v ≤ i) && bitOf (X.drop k) i) = true then none else some ⟨v, bitOf (X.drop k)⟩) := Lib.hid (by rw [HR.out, HRD.out, if_neg (by omega)])
          clear HRD HR
          have hwv : IntKind.i64.wrap (v : Int) = (v : Int) := IntWalk.i64_in _ (by omega)
          have hsl := fun u : World => slice_from u A1 nX c1 k hkX
          go_wp2_with fail
          refine HCG.out.mono ?_
          rintro e w2 ⟨rfl, rfl⟩
          go_wp2_with fail
          refine (dpNew_yes w2 v (by omega)).mono ?_
          rintro e w3 ⟨rfl, hd3, hb3⟩
          obtain ⟨b, hb⟩ : ∃ b, b = w2.heap.size := ⟨_, rfl⟩
          rw [← hb] at hd3 ⊢
          have HBW : Hid (w.heap.size ≤ b) := Lib.hid (by rw [hb]; exact HB1.out.size)
          have HB3 := Lib.hid (below_then HB1.out hb3 HB1.out.size)
          have HX3 : Hid (BytesIn w3 A1 nX X) := Lib.hid (BytesIn.below HX1.out hb3)
          have HD3 := Lib.hid hd3
          have HCU := Lib.hid (dpUsed_any hd3)
          obtain ⟨r, hr⟩ : ∃ r, r = nX - k := ⟨_, rfl⟩
          obtain ⟨q, hq⟩ : ∃ q, q = (v + 7) / 8 := ⟨_, rfl⟩
          have hq8 : q ≤ 8 := by omega
          rw [← hr, ← hq] at HRD2
          rw [← hq] at HCU
          have hsl2 : ∀ u : World, (Instr.slice 23 (.slice A1 nX c1) (some (.int .i64 k)) none none).run Try.prog u = .ok (.slice (cutAddr A1 k c1) r (c1 - k)) u := fun u => by rw [hr]; exact hsl u
          have HXR := Lib.hid (BytesIn.sub HX3.out hcap k nX hkX (Nat.le_refl _))
          rw [List.take_of_length_le (by have := HNX.out; omega), ← hr] at HXR
          obtain ⟨R, hR⟩ : ∃ R, R = X.drop k := ⟨_, rfl⟩
          rw [← hR] at HXR HRD2
          obtain ⟨cA, hcA⟩ : ∃ z, z = cutAddr A1 k c1 := ⟨_, rfl⟩
          rw [← hcA] at HXR hsl2
          clear hsl hb hb3 hd3 hr hq hR hcA
          go_wp2_with fail
          refine HCU.out.mono ?_
          rintro e w4 ⟨rfl, p, hw4⟩
          have HB4 : Hid (Below w.heap.size w w4) := Lib.hid (by rw [hw4]; exact below_drewN HB3.out p)
          have HD4 : Hid (IsB w4 b v noB) := Lib.hid (by rw [hw4]; exact HD3.out.drewN p)
          have HX4 : Hid (BytesIn w4 cA r R) := Lib.hid (by rw [hw4]; exact HXR.out.drewN p)
          clear hw4 HCU HB3 HD3 HX3 HXR HX1
          by_cases hrq : r = q
          · subst hrq
            have HRD3 := Lib.hid HRD2.out
            rw [if_neg (by omega)] at HRD3
            have hRl : R.length = r := by have := HX4.out.2.1.len; simpa using this
            have HRL := Lib.hid hRl
            have HPOS : Hid (0 < (R.map byteV).length → ∃ ad, cA = some ad ∧ ∀ j v, (R.map byteV)[j]? = some v → w4.cell? (ad.add j) = some v) := Lib.hid (fun h0 => by
              cases hcA : cA with
              | none =>
                have := HX4.out.2.1.nil hcA
                rw [List.length_map] at h0
                omega
              | some ad => exact ⟨ad, rfl, HX4.out.2.1.cells ad hcA⟩)
            clear HRD2 hRl
            have harr := fun u : World => arr_all u b
            have a1 : (R.map byteV).length = Nat.min r 8 := by rw [List.length_map, HRL.out]; exact (Nat.min_eq_left hq8).symm
            have a2 : 1 + (R.map byteV).length ≤ (Value.int .i64 v :: noB.map byteV).length := by rw [List.length_map, HRL.out]; show 1 + r ≤ 9; omega
            have a3 : (Try.prog.info? 5).map (·.size) = some 1 := by kernel_rfl
            have A1' := Lib.hid a1
            have A2' := Lib.hid a2
            have A3' := Lib.hid a3
            have A5 : Hid (∀ w5 : World, Hid (w5.heap[b]? = some (.cells (splice (Value.int .i64 v :: noB.map byteV) 1 (R.map byteV)).toArray 53 (0, 0))) → IsB w5 b v (overB R)) := Lib.hid (fun w5 hh5 => ⟨by rw [← overB_cells]; exact hh5.out, overB_len (by rw [HRL.out]; exact hq8), by omega⟩)
            clear a1 a2 a3
            go_wp2_with (refine wpList_copy_splice rfl (.tmp 52) (.tmp 53) 23 23 rfl 5 Try.underlying23 A3'.out (some ⟨b, 1, none⟩) cA 8 8 r (c1 - k) rfl rfl b 1 (.int .i64 v :: noB.map byteV) 53 HD4.out.blk (R.map byteV) A1'.out (fun h0 => ⟨rfl, HPOS.out h0⟩) A2'.out (u8_one _) w.heap.size w HB4.out HBW.out ?_; intro w5 hh5 hb5; have HB5 := Lib.hid hb5; have HD5 := Lib.hid (A5.out w5 hh5); clear hh5 hb5)
            have HDU : Hid (∀ u : World, Below w5.heap.size w5 u → IsB u b v (overB R)) := Lib.hid (fun u hu => HD5.out.of_block (hu.block b HD5.out.blk.lt))
            have HMANY : Hid (∀ u : World, Below w5.heap.size w5 u → Calls Try.prog 20 #[.pointer (some ⟨b, 0, none⟩)] u fun e w' => e = .returned (.int .i64 (popTo (overB R) 8)) ∧ w' = u) := Lib.hid (fun u hu => dpMany_any (HDU.out u hu))
            have HLIVE : Hid (∀ u : World, Below w5.heap.size w5 u → Calls Try.prog 12 #[.pointer (some ⟨b, 0, none⟩)] u fun e w' => ∃ A c, e = .returned (.slice A (liveTo (bitOf (overB R)) v).length c) ∧ w'.ownsRow u.heap.size 2 1 (.slice A (liveTo (bitOf (overB R)) v).length c) (liveTo (bitOf (overB R)) v).length ((liveTo (bitOf (overB R)) v).map i64V) ∧ Below u.heap.size u w') := Lib.hid (fun u hu => dpLive_any (HDU.out u hu))
            have hMI := many_is (l := overB R) (n := v) (by omega)
            have hb1 := popTo_le (overB R) 8
            have hb2 := liveTo_le (bitOf (overB R)) v
            have hBO : bitOf (overB R) = bitOf R := funext fun i => overB_bit R i
            have HBO := Lib.hid hBO
            obtain ⟨P, hP⟩ : ∃ P, P = popTo (overB R) 8 := ⟨_, rfl⟩
            obtain ⟨Q, hQ⟩ : ∃ Q, Q = (liveTo (bitOf (overB R)) v).length := ⟨_, rfl⟩
            rw [← hP] at HMANY hMI hb1
            rw [← hQ] at HLIVE hMI hb2
            have hwS : IntKind.i64.wrap ((P : Int) + (Q : Int)) = ((P + Q : Nat) : Int) := IntWalk.i64_in _ (by omega)
            obtain ⟨S, hS⟩ : ∃ S, S = P + Q := ⟨_, rfl⟩
            rw [← hS] at hMI hwS
            obtain ⟨tb, htb⟩ : ∃ tb, tb = ((S : Int) != (v : Int)) := ⟨_, rfl⟩
            have HTB : Hid (tb = true → dGet x = none) := Lib.hid (fun h => by
              rw [HRD3.out, if_pos]
              rw [h] at htb
              have hne : ¬ S = v := fun e => by rw [e] at htb; simp at htb
              rw [← HBO.out]
              cases ha : ((List.range 64).any fun i => decide (v ≤ i) && bitOf (overB R) i) with
              | true => rfl
              | false => exact absurd (hMI.2 ha) hne)
            have HFB : Hid (tb = false → dGet x = some ⟨v, bitOf R⟩) := Lib.hid (fun h => by
              rw [HRD3.out, if_neg]
              rw [h] at htb
              have he : S = v := by
                have h2 : (S : Int) = (v : Int) := by simpa using htb.symm
                omega
              rw [← HBO.out, hMI.1 he]
              decide)
            have HBITS : Hid (tb = false → ∀ i, i < 64 → bitOf (overB R) i = (decide (i < v) && bitOf R i)) := Lib.hid (fun h i hi => by
              rw [h] at htb
              have he : S = v := by
                have h2 : (S : Int) = (v : Int) := by simpa using htb.symm
                omega
              have h3 := hMI.1 he
              rw [List.any_eq_false] at h3
              have h4 := h3 i (List.mem_range.2 hi)
              rw [← HBO.out]
              by_cases hiv : i < v
              · rw [decide_eq_true hiv, Bool.true_and]
              · rw [decide_eq_true (show v ≤ i by omega), Bool.true_and] at h4
                rw [decide_eq_false hiv, Bool.false_and]
                simpa using h4)
            have htb' := htb.symm
            have HBB := Lib.hid HB5.out
            have HC0 : Hid (∀ u : World, Below w5.heap.size w5 u → u.cell? ⟨b, 0, none⟩ = some (.int .i64 v)) := Lib.hid (fun u hu => (HDU.out u hu).c0)
            clear hP hQ hS htb hMI hBO HB4 HD4 HX4 HPOS HRL hb1 hb2
            go_wp2_with fail
            refine wp_region_held_drew (S := fun w' => w'.cell? ⟨b, 0, none⟩ = some (.int .i64 v)) (by kernel_rfl) (HC0.out w5 (Below.refl _ w5)) (fun hHeld => ?_)
            obtain ⟨u, hu⟩ : ∃ u, u = w5.drew := ⟨_, rfl⟩
            rw [← hu] at hHeld ⊢
            have HU : Hid (Below w5.heap.size w5 u) := Lib.hid (by rw [hu]; exact (Below.refl _ w5).drew)
            clear hu
            refine wpAnyH_take (i := 0) (oi := ?oia10) (v := ?va10) ?hia10 (by kernel_rfl) (by kernel_rfl) (by kernel_rfl) ?hQa10 (Or.inl ⟨?hwa10, ?hya10⟩) (by assumption) ?resta10
            case hia10 => (first | (simp only [List.getElem?_toArray, List.getElem?_cons_zero, List.getElem?_cons_succ]; rfl) | rfl)
            case hQa10 => exact fun _ _ _ h => h
            case hwa10 => rfl
            case hya10 => ((intro w hSw; go_simp); first | done | with_reducible rfl)
            try simp only [Act.put, List.setIfInBounds_toArray, List.set_cons_zero, List.set_cons_succ]
            refine wpAnyH_take (i := 2) (oi := ?oia22) (v := ?va22) ?hia22 (by kernel_rfl) (by kernel_rfl) (by kernel_rfl) ?hQa22 (Or.inl ⟨?hwa22, ?hya22⟩) (by assumption) ?resta22
            case hia22 => (first | (simp only [List.getElem?_toArray, List.getElem?_cons_zero, List.getElem?_cons_succ]; rfl) | rfl)
            case hQa22 => exact fun _ _ _ h => h
            case hwa22 => rfl
            case hya22 => ((intro w hSw; go_simp); first | done | with_reducible rfl)
            try simp only [Act.put, List.setIfInBounds_toArray, List.set_cons_zero, List.set_cons_succ]
            refine wpAnyH_take (i := 6) (oi := ?oia36) (v := ?va36) ?hia36 (by kernel_rfl) (by kernel_rfl) (by kernel_rfl) ?hQa36 (Or.inl ⟨?hwa36, ?hya36⟩) (by assumption) ?resta36
            case hia36 => (first | (simp only [List.getElem?_toArray, List.getElem?_cons_zero, List.getElem?_cons_succ]; rfl) | rfl)
            case hQa36 => exact fun _ _ _ h => h
            case hwa36 => rfl
            case hya36 => ((intro w hSw; go_simp); first | done | with_reducible rfl)
            try simp only [Act.put, List.setIfInBounds_toArray, List.set_cons_zero, List.set_cons_succ]
            refine wpAnyH_take (i := 7) (oi := ?oia47) (v := ?va47) ?hia47 (by kernel_rfl) (by kernel_rfl) (by kernel_rfl) ?hQa47 (Or.inl ⟨?hwa47, ?hya47⟩) (by assumption) ?resta47
            case hia47 => (first | (simp only [List.getElem?_toArray, List.getElem?_cons_zero, List.getElem?_cons_succ]; rfl) | rfl)
            case hQa47 => exact fun _ _ _ h => h
            case hwa47 => rfl
            case hya47 => ((intro w hSw; go_simp); first | done | with_reducible rfl)
            try simp only [Act.put, List.setIfInBounds_toArray, List.set_cons_zero, List.set_cons_succ]
            refine wpAnyH_take (i := 8) (oi := ?oia58) (v := ?va58) ?hia58 (by kernel_rfl) (by kernel_rfl) (by kernel_rfl) ?hQa58 (Or.inl ⟨?hwa58, ?hya58⟩) (by assumption) ?resta58
            case hia58 => (first | (simp only [List.getElem?_toArray, List.getElem?_cons_zero, List.getElem?_cons_succ]; rfl) | rfl)
            case hQa58 => exact fun _ _ _ h => h
            case hwa58 => rfl
            case hya58 => ((intro w hSw; go_simp); first | done | with_reducible rfl)
            try simp only [Act.put, List.setIfInBounds_toArray, List.set_cons_zero, List.set_cons_succ]
            refine wpAnyH_take (i := 9) (oi := ?oia69) (v := ?va69) ?hia69 (by kernel_rfl) (by kernel_rfl) (by kernel_rfl) ?hQa69 (Or.inl ⟨?hwa69, ?hya69⟩) (by assumption) ?resta69
            case hia69 => (first | (simp only [List.getElem?_toArray, List.getElem?_cons_zero, List.getElem?_cons_succ]; rfl) | rfl)
            case hQa69 => exact fun _ _ _ h => h
            case hwa69 => rfl
            case hya69 => ((intro w hSw; go_simp); first | done | with_reducible rfl)
            try simp only [Act.put, List.setIfInBounds_toArray, List.set_cons_zero, List.set_cons_succ]
            refine wpAnyH_ready (rs := [1]) (by kernel_rfl) (by simp) ?_
            refine AllReadyH.cons (o := ?oa7) ?ha7 ?sa7 AllReadyH.nil
            case ha7 => (simp only [List.getElem?_toArray, List.getElem?_cons_zero, List.getElem?_cons_succ]; rfl)
            case sa7 =>
              intro K hK
              go_simp
              refine (HMANY.out u HU.out).mono ?_
              rintro e w6 ⟨rfl, rfl⟩
              go_wp2_with fail
              refine hK.out _ _ (HC0.out _ HU.out) (fun ha8 => ?_)
              clear hK K
              try simp only [Act.put, List.setIfInBounds_toArray, List.set_cons_zero, List.set_cons_succ]
              refine wpAnyH_ready (rs := [3]) (by kernel_rfl) (by simp) ?_
              refine AllReadyH.cons (o := ?oa9) ?ha9 ?sa9 AllReadyH.nil
              case ha9 => (simp only [List.getElem?_toArray, List.getElem?_cons_zero, List.getElem?_cons_succ]; rfl)
              case sa9 =>
                intro K hK
                go_simp
                refine (HLIVE.out _ HU.out).mono ?_
                rintro e u2 ⟨A5, c5, rfl, -, hb6⟩
                have HU2 := Lib.hid (below_then HU.out hb6 HU.out.size)
                clear hb6
                go_wp2_with fail
                refine hK.out _ _ (HC0.out _ HU2.out) (fun ha10 => ?_)
                clear hK K
                try simp only [Act.put, List.setIfInBounds_toArray, List.set_cons_zero, List.set_cons_succ]
                refine wpAnyH_take (i := 4) (oi := ?oia114) (v := ?va114) ?hia114 (by kernel_rfl) (by kernel_rfl) (by kernel_rfl) ?hQa114 (Or.inl ⟨?hwa114, ?hya114⟩) (by assumption) ?resta114
                case hia114 => (first | (simp only [List.getElem?_toArray, List.getElem?_cons_zero, List.getElem?_cons_succ]; rfl) | rfl)
                case hQa114 => exact fun _ _ _ h => h
                case hwa114 => rfl
                case hya114 => ((intro w hSw; go_simp); first | done | with_reducible rfl)
                try simp only [Act.put, List.setIfInBounds_toArray, List.set_cons_zero, List.set_cons_succ]
                refine wpAnyH_take (i := 5) (oi := ?oia125) (v := ?va125) ?hia125 (by kernel_rfl) (by kernel_rfl) (by kernel_rfl) ?hQa125 (Or.inl ⟨?hwa125, ?hya125⟩) (by assumption) ?resta125
                case hia125 => (first | (simp only [List.getElem?_toArray, List.getElem?_cons_zero, List.getElem?_cons_succ]; rfl) | rfl)
                case hQa125 => exact fun _ _ _ h => h
                case hwa125 => rfl
                case hya125 => ((intro w hSw; go_simp); first | done | with_reducible rfl)
                try simp only [Act.put, List.setIfInBounds_toArray, List.set_cons_zero, List.set_cons_succ]
                refine wpAnyH_take (i := 10) (oi := ?oia1310) (v := ?va1310) ?hia1310 (by kernel_rfl) (by kernel_rfl) (by kernel_rfl) ?hQa1310 (Or.inl ⟨?hwa1310, ?hya1310⟩) (by assumption) ?resta1310
                case hia1310 => (first | (simp only [List.getElem?_toArray, List.getElem?_cons_zero, List.getElem?_cons_succ]; rfl) | rfl)
                case hQa1310 => exact fun _ _ _ h => h
                case hwa1310 => rfl
                case hya1310 => ((intro w hSw; go_simp); first | done | with_reducible rfl)
                try simp only [Act.put, List.setIfInBounds_toArray, List.set_cons_zero, List.set_cons_succ]
                refine wpAnyH_done (by kernel_rfl) ?_ _
                have HBF : Hid (Below w.heap.size w u2) := Lib.hid (below_then HBB.out HU2.out HBB.out.size)
                have HDF := Lib.hid (HDU.out _ HU2.out)
                cases tb with
                | true =>
                  have HNO := Lib.hid (HTB.out rfl)
                  go_wp2
                  go_ret2
                  exact DGetOut.none_ HNO.out HBF.out
                | false =>
                  have HYES := Lib.hid (HFB.out rfl)
                  have HBI := Lib.hid (HBITS.out rfl)
                  go_wp2
                  go_ret2
                  refine ⟨HBF.out, ?_⟩
                  rw [HYES.out]
                  exact ⟨b, rfl, HBW.out, overB R, HDF.out, HBI.out⟩
          · have hne : ((r : Int) != (q : Int)) = true := by simp only [bne_iff_ne]; omega
            have HNO : Hid (dGet x = none) := Lib.hid (by rw [HRD2.out, if_pos hrq])
            go_wp2
            go_ret2
            exact DGetOut.none_ HNO.out HB4.out
      · have HNO : Hid (dGet x = none) := Lib.hid (by rw [HR.out, HRD.out, if_pos (.inl he2)])
        have hne : (e2 != 0) = true := by simp only [bne_iff_ne]; exact he2
        clear HRD HR hg2
        go_wp2_with fail
        refine HCG.out.mono ?_
        rintro e w2 ⟨rfl, rfl⟩
        go_wp2
        go_ret2
        exact DGetOut.none_ HNO.out HB1.out
  · have HNO : Hid (dGet x = none) := Lib.hid (by rw [HFR.out, if_pos (.inl he)])
    have hne : (e != 0) = true := by simp only [bne_iff_ne]; exact he
    clear HFR
    go_enter Try.func8, Try.ntmps8
    go_wp2_with fail
    refine HCF.out.mono ?_
    rintro e' w1 ⟨v1, rfl, ho1, hb1⟩
    have HB1 := Lib.hid hb1
    clear ho1 hb1
    go_wp2
    go_ret2
    exact DGetOut.none_ HNO.out HB1.out
end Go.Proofs.Ytdmhaaplgkilpaa
