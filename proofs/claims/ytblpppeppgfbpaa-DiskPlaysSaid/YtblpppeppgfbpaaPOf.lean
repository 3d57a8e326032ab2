/- The program's disk: Of. -/
import Derived.Test.YtblpppeppgfbpaaOfFile
import Derived.Test.YtblpppeppgfbpaaKClone
import Derived.Deep.RegionHeld3
namespace Go.Proofs.Ytblpppeppgfbpaa
open Go.RowKit Go.Maps Go.WideMaps

/-- What Of leaves of the program's disk. -/
def POfOut (w : World) (room : Nat) (l : List FlV) (e : Ending) (w' : World) : Prop :=
  (e = .returned (.pointer none) ∧ ¬ OfGood l ∧ Below w.heap.size w w') ∨ ∃ b F s f, e = .returned (at0 b) ∧ OfGood l ∧ Mine w w' F b s ∧ s.mid = false ∧ Sim s (rOfEnd room l) f

set_option linter.unusedSimpArgs false in
set_option maxHeartbeats 8000000 in
set_option maxRecDepth 100000 in
theorem pOf_any {w : World} {A : Option Addr} {n : Nat} {l : List FlV} (h : FlsIn w A n l) (c : Nat) (room : Int) (hr : room ≤ 9223372036854775807) :
    Calls Try.prog 7 #[.int .i64 room, .slice A n c] w (POfOut w room.toNat l) := by
  have H := Lib.hid h
  have hln := h.len
  have HLN := Lib.hid hln
  have nbig := h.big
  obtain ⟨R, hR⟩ : ∃ R, R = room.toNat := ⟨_, rfl⟩
  rw [← hR]
  have HRR := Lib.hid hR
  clear h hln
  by_cases h64 : 64 < n
  · have h64z : (64 : Int) < (n : Int) := by omega
    go_enter Try.func7, Try.ntmps7
    go_wp2
    go_ret
    exact .inl ⟨rfl, fun hg => by have := hg.1; have := HLN.out; omega, Below.refl _ _⟩
  have h64z : ¬ (64 : Int) < (n : Int) := by omega
  have hn64 : n ≤ 64 := by omega
  clear h64 nbig
  go_enter Try.func7, Try.ntmps7
  go_wp2_with fail
  refine (New_any w room hr).mono ?_
  rintro e w1 ⟨rfl, hD1, hB1⟩
  rw [← HRR.out] at hD1
  have D1 := Lib.hid (⟨hD1, fun i hi => hi.1, hB1⟩ : Mine w w1 _ _ _)
  obtain ⟨b, hb⟩ : ∃ b, b = w.heap.size + 2 := ⟨_, rfl⟩
  rw [← hb] at D1 ⊢
  have hs0 : SOf R l 0 (fun _ => 0) (St.new R) := ⟨rfl, rfl, rfl, rfl, rfl, rfl, rfl, fun j h => by omega, fun i j h => by omega, fun j o h => by omega⟩
  have HS0 := Lib.hid hs0
  have hbw : w.heap.size ≤ b := by omega
  clear hR hD1 hB1 hs0 hb
  unfold at0
  go_wp2
  go_loopw [15] (fun i wr => ∃ (k : Nat) (F : Nat → Prop) (s : St) (f : Nat → Nat), k ≤ n ∧ i = .int .i64 k ∧ Mine w wr F b s ∧ SOf R l k f s ∧ ∀ j o, j < k → l[j]? = some o → OfOk l j o) (fun i _ => n - (intOf i).toNat)
  case atStart => exact ⟨0, _, _, _, by omega, rfl, D1.out, HS0.out, fun j o h => by omega⟩
  case round =>
    clear D1 HS0
    obtain ⟨k, F, s, f, hk, rfl, hM, hS, hok⟩ := hrel
    have HM := Lib.hid hM
    have HS := Lib.hid hS
    have HOKS := Lib.hid hok
    clear hM hS hok
    rcases Nat.lt_or_ge k n with hlt | hge
    · have hlt' : (k : Int) < (n : Int) := by omega
      have p0 : (0 : Int) ≤ (k : Int) := by omega
      obtain ⟨o, ho⟩ : ∃ o, l[k]? = some o := ⟨l[k]'(by rw [HLN.out]; exact hlt), List.getElem?_eq_getElem _⟩
      have HO := Lib.hid ho
      have hin := H.out.op o (List.mem_of_getElem? ho)
      have HIN := Lib.hid hin
      have hA : A ≠ none := fun e => by have := H.out.nil e; omega
      obtain ⟨ad, rfl⟩ : ∃ ad, A = some ad := by cases A with | none => exact absurd rfl hA | some ad => exact ⟨ad, rfl⟩
      clear hA
      obtain ⟨ky, hky⟩ : ∃ ky : Nm, o.a = ⟨ky.toArray⟩ := ⟨o.a.data.toList, by simp⟩
      have hks : (⟨ky.toArray⟩ : ByteArray).size ≤ 140737488351232 := by rw [← hky]; exact hin.na
      have hkm : (⟨ky.toArray⟩ : ByteArray).size ≤ maxLen := Nat.le_trans hks (by decide)
      have hkd : (⟨ky.toArray⟩ : ByteArray).data.toList = ky := by simp
      have hokey : o.key = ky := by unfold FlV.key; rw [hky]
      have HKY := Lib.hid hokey
      have HKD := Lib.hid hkd
      have c0 : wr.cell? (ad.add (k * 2)) = some (.string ⟨ky.toArray⟩) := below_cells HM.out.below (by rw [← hky]; exact H.out.at0 ho)
      have c1 : wr.cell? ⟨(ad.add (k * 2)).block, (ad.add (k * 2)).off + 1, none⟩ = some (.slice o.B o.bn o.bc) := below_cells HM.out.below (H.out.at1 ho)
      have hbn63 : o.bn ≤ 140737488351232 := hin.nb
      have HHAS := Lib.hid (HM.out.disk)
      have hdel : dget s.now ky = (dget (ofDir l k) ky).map f := by rw [HS.out.now, dget_dmap]
      have HDEL := Lib.hid hdel
      have fin : ∀ w', Below w.heap.size w w' → ¬ OfOk l k o → POfOut w R l (.returned (.pointer none)) w' := fun w' hb hno => .inl ⟨rfl, fun hg => hno (hg.2 k o HO.out), hb⟩
      have FIN := Lib.hid fin
      clear ho hin hky hokey hkd hdel fin
      have HDW := Lib.hid (HM.out.disk.alloc (.cells #[.string ⟨ky.toArray⟩, .slice o.B o.bn o.bc] 60))
      have HBA := Lib.hid (HM.out.below.alloc HM.out.below.size (.cells #[.string ⟨ky.toArray⟩, .slice o.B o.bn o.bc] 60))
      have hblt : ad.block < w.heap.size := H.out.lt ad rfl (by omega)
      cases hon : okName ky with
      | false =>
        have HV : Hid (okName (⟨ky.toArray⟩ : ByteArray).data.toList = false) := Lib.hid (by simpa using hon)
        have HON := Lib.hid hon
        clear hon
        obtain ⟨blk, off, sp⟩ := ad
        go_wp2_with fail
        refine (validName_any _ _ hkm).mono ?_
        rintro e w' ⟨rfl, hw⟩
        rw [← hw, HV.out]
        clear hw w'
        go_wp2
        go_ret
        exact FIN.out _ HBA.out (fun hg => by have := hg.1; rw [HKY.out, HON.out] at this; cases this)
      | true =>
        have HV : Hid (okName (⟨ky.toArray⟩ : ByteArray).data.toList = true) := Lib.hid (by simpa using hon)
        have HON := Lib.hid hon
        clear hon
        cases hg1 : dget (ofDir l k) ky with
        | some j =>
          have HH : Hid ((dget s.now (⟨ky.toArray⟩ : ByteArray).data.toList).isSome = true) := Lib.hid (by
            have := HDEL.out
            rw [hg1] at this
            simp [this])
          have G1 := Lib.hid hg1
          clear hg1
          obtain ⟨blk, off, sp⟩ := ad
          go_wp2_with fail
          refine (validName_any _ _ hkm).mono ?_
          rintro e w' ⟨rfl, hw⟩
          rw [← hw, HV.out]
          clear hw w'
          go_wp2_with fail
          refine (has_any HDW.out _ hkm).mono ?_
          rintro e w' ⟨rfl, hw⟩
          rw [← hw, HH.out]
          clear hw w'
          go_wp2
          go_ret
          exact FIN.out _ HBA.out (fun hg => by have := hg.2.1; rw [HKY.out, G1.out] at this; cases this)
        | none =>
          have HH : Hid ((dget s.now (⟨ky.toArray⟩ : ByteArray).data.toList).isSome = false) := Lib.hid (by
            have := HDEL.out
            rw [hg1] at this
            simp [this])
          have G1 := Lib.hid hg1
          clear hg1
          by_cases hbig : 262144 < o.bn
          · have hbz : (262144 : Int) < (o.bn : Int) := by omega
            obtain ⟨blk, off, sp⟩ := ad
            go_wp2_with fail
            refine (validName_any _ _ hkm).mono ?_
            rintro e w' ⟨rfl, hw⟩
            rw [← hw, HV.out]
            clear hw w'
            go_wp2_with fail
            refine (has_any HDW.out _ hkm).mono ?_
            rintro e w' ⟨rfl, hw⟩
            rw [← hw, HH.out]
            clear hw w'
            go_wp2
            go_ret
            exact FIN.out _ HBA.out (fun hg => by have := hg.2.2; omega)
          have hbz : ¬ (262144 : Int) < (o.bn : Int) := by omega
          have hofk : OfOk l k o := ⟨by rw [HKY.out]; exact HON.out, by rw [HKY.out]; exact G1.out, by omega⟩
          have HOFK := Lib.hid hofk
          clear hofk
          go_wp2_with fail
          refine (validName_any _ _ hkm).mono ?_
          rintro e w' ⟨rfl, hw⟩
          rw [← hw, HV.out]
          clear hw w'
          go_wp2_with fail
          refine (has_any HDW.out _ hkm).mono ?_
          rintro e w' ⟨rfl, hw⟩
          rw [← hw, HH.out]
          clear hw w'
          go_wp2_with fail
          refine wp_at ?_
          intro W hW
          have hBW : Below wr.heap.size wr W := by rw [hW]; exact (Below.refl _ wr).alloc (Nat.le_refl _) _
          have hvf : Blk W wr.heap.size 60 #[.string ⟨ky.toArray⟩, .slice o.B o.bn o.bc] := by rw [hW]; exact Blk.new _ _ _
          have hsz : W.heap.size = wr.heap.size + 1 := by rw [hW]; simp
          clear hW
          obtain ⟨bn, bo, cv, cls, fv, hd⟩ := HM.out.disk
          have hdW : IsDisk W F b s bn bo cv cls fv := hd.frame (fun i hi => hBW.block i (hd.lt i hi)) hBW.size
          have m1 : W.cell? ⟨b, 1, none⟩ = some (.map (some bn)) := by simpa using hdW.blk.cell 1
          have f0 : W.cell? ⟨wr.heap.size, 0, none⟩ = some (.string ⟨ky.toArray⟩) := by simpa using hvf.cell 0
          have f1 : W.cell? ⟨wr.heap.size, 1, none⟩ = some (.slice o.B o.bn o.bc) := by simpa using hvf.cell 1
          have hbl : o.bs.length = o.bn := by have := HIN.out.b.2.1.len; simpa using this
          have hkl : ky.length ≤ 281474976710656 := by have := hks; simp [ByteArray.size] at this; omega
          have hkey : keyOf Try.prog 9 (.string ⟨ky.toArray⟩) = some (.string ky) := by have := keyLit hkl; simpa [encStr] using this
          have hnow : s.now.length ≤ k := by rw [HS.out.now, dmap_len]; exact ofDir_len l k
          have hbne : b ≠ bn := hd.blk.ne_map hd.now
          have hvne : wr.heap.size ≠ bn := hvf.ne_map hdW.now
          have HBL := Lib.hid hbl
          have HD := Lib.hid hdW
          have HBW := Lib.hid hBW
          have HKEY := Lib.hid hkey
          have HVF := Lib.hid hvf
          have HFLT := Lib.hid hdW.lt
          clear hBW hvf hd hdW hbl hkey hkl c0 c1
          refine wp_region_held_drew (S := fun w' => w'.cell? ⟨b, 1, none⟩ = some (.map (some bn)) ∧ w'.cell? ⟨wr.heap.size, 0, none⟩ = some (.string ⟨ky.toArray⟩) ∧ w'.cell? ⟨wr.heap.size, 1, none⟩ = some (.slice o.B o.bn o.bc)) (by kernel_rfl) ?_ (fun hHeld => ?_)
          · exact ⟨m1, f0, f1⟩
          refine wpAnyH_take (i := 0) (oi := ?oia0) (v := ?va0) ?hia0 (by kernel_rfl) (by kernel_rfl) (by kernel_rfl) ?hQa0 (Or.inl ⟨?hwa0, ?hya0⟩) (by assumption) ?resta0
          case hia0 => (first | (simp only [List.getElem?_toArray, List.getElem?_cons_zero, List.getElem?_cons_succ]; rfl) | rfl)
          case hQa0 => exact fun _ _ _ h => h
          case hwa0 => rfl
          case hya0 => ((intro w hSw; go_simp); first | done | with_reducible rfl)
          try simp only [Act.put, List.setIfInBounds_toArray, List.set_cons_zero, List.set_cons_succ]
          refine wpAnyH_take (i := 1) (oi := ?oia1) (v := ?va1) ?hia1 (by kernel_rfl) (by kernel_rfl) (by kernel_rfl) ?hQa1 (Or.inl ⟨?hwa1, ?hya1⟩) (by assumption) ?resta1
          case hia1 => (first | (simp only [List.getElem?_toArray, List.getElem?_cons_zero, List.getElem?_cons_succ]; rfl) | rfl)
          case hQa1 => exact fun _ _ _ h => h
          case hwa1 => rfl
          case hya1 => ((intro w hSw; go_simp); first | done | with_reducible rfl)
          try simp only [Act.put, List.setIfInBounds_toArray, List.set_cons_zero, List.set_cons_succ]
          refine wpAnyH_take (i := 2) (oi := ?oia2) (v := ?va2) ?hia2 (by kernel_rfl) (by kernel_rfl) (by kernel_rfl) ?hQa2 (Or.inl ⟨?hwa2, ?hya2⟩) (by assumption) ?resta2
          case hia2 => (first | (simp only [List.getElem?_toArray, List.getElem?_cons_zero, List.getElem?_cons_succ]; rfl) | rfl)
          case hQa2 => exact fun _ _ _ h => h
          case hwa2 => rfl
          case hya2 => ((intro w hSw; go_simp); first | done | with_reducible rfl)
          try simp only [Act.put, List.setIfInBounds_toArray, List.set_cons_zero, List.set_cons_succ]
          refine wpAnyH_take (i := 3) (oi := ?oia3) (v := ?va3) ?hia3 (by kernel_rfl) (by kernel_rfl) (by kernel_rfl) ?hQa3 (Or.inl ⟨?hwa3, ?hya3⟩) (by assumption) ?resta3
          case hia3 => (first | (simp only [List.getElem?_toArray, List.getElem?_cons_zero, List.getElem?_cons_succ]; rfl) | rfl)
          case hQa3 => exact fun _ _ _ h => h
          case hwa3 => rfl
          case hya3 => ((intro w hSw; go_simp); first | done | with_reducible rfl)
          try simp only [Act.put, List.setIfInBounds_toArray, List.set_cons_zero, List.set_cons_succ]
          refine wpAnyH_take (i := 4) (oi := ?oia4) (v := ?va4) ?hia4 (by kernel_rfl) (by kernel_rfl) (by kernel_rfl) ?hQa4 (Or.inl ⟨?hwa4, ?hya4⟩) (by assumption) ?resta4
          case hia4 => (first | (simp only [List.getElem?_toArray, List.getElem?_cons_zero, List.getElem?_cons_succ]; rfl) | rfl)
          case hQa4 => exact fun _ _ _ h => h
          case hwa4 => rfl
          case hya4 => ((intro w hSw; go_simp); first | done | with_reducible rfl)
          try simp only [Act.put, List.setIfInBounds_toArray, List.set_cons_zero, List.set_cons_succ]
          refine wpAnyH_take (i := 5) (oi := ?oia5) (v := ?va5) ?hia5 (by kernel_rfl) (by kernel_rfl) (by kernel_rfl) ?hQa5 (Or.inl ⟨?hwa5, ?hya5⟩) (by assumption) ?resta5
          case hia5 => (first | (simp only [List.getElem?_toArray, List.getElem?_cons_zero, List.getElem?_cons_succ]; rfl) | rfl)
          case hQa5 => exact fun _ _ _ h => h
          case hwa5 => rfl
          case hya5 => ((intro w hSw; go_simp); first | done | with_reducible rfl)
          try simp only [Act.put, List.setIfInBounds_toArray, List.set_cons_zero, List.set_cons_succ]
          refine wpAnyH_take (i := 7) (oi := ?oia7) (v := ?va7) ?hia7 (by kernel_rfl) (by kernel_rfl) (by kernel_rfl) ?hQa7 (Or.inl ⟨?hwa7, ?hya7⟩) (by assumption) ?resta7
          case hia7 => (first | (simp only [List.getElem?_toArray, List.getElem?_cons_zero, List.getElem?_cons_succ]; rfl) | rfl)
          case hQa7 => exact fun _ _ _ h => h
          case hwa7 => rfl
          case hya7 => ((intro w hSw; go_simp); first | done | with_reducible rfl)
          try simp only [Act.put, List.setIfInBounds_toArray, List.set_cons_zero, List.set_cons_succ]
          refine wpAnyH_take (i := 8) (oi := ?oia8) (v := ?va8) ?hia8 (by kernel_rfl) (by kernel_rfl) (by kernel_rfl) ?hQa8 (Or.inl ⟨?hwa8, ?hya8⟩) (by assumption) ?resta8
          case hia8 => (first | (simp only [List.getElem?_toArray, List.getElem?_cons_zero, List.getElem?_cons_succ]; rfl) | rfl)
          case hQa8 => exact fun _ _ _ h => h
          case hwa8 => rfl
          case hya8 => ((intro w hSw; go_simp); first | done | with_reducible rfl)
          try simp only [Act.put, List.setIfInBounds_toArray, List.set_cons_zero, List.set_cons_succ]
          refine wpAnyH_take (i := 10) (oi := ?oia10) (v := ?va10) ?hia10 (by kernel_rfl) (by kernel_rfl) (by kernel_rfl) ?hQa10 (Or.inl ⟨?hwa10, ?hya10⟩) (by assumption) ?resta10
          case hia10 => (first | (simp only [List.getElem?_toArray, List.getElem?_cons_zero, List.getElem?_cons_succ]; rfl) | rfl)
          case hQa10 => exact fun _ _ _ h => h
          case hwa10 => rfl
          case hya10 => ((intro w hSw; go_simp); first | done | with_reducible rfl)
          try simp only [Act.put, List.setIfInBounds_toArray, List.set_cons_zero, List.set_cons_succ]
          refine wpAnyH_take (i := 11) (oi := ?oia11) (v := ?va11) ?hia11 (by kernel_rfl) (by kernel_rfl) (by kernel_rfl) ?hQa11 (Or.inl ⟨?hwa11, ?hya11⟩) (by assumption) ?resta11
          case hia11 => (first | (simp only [List.getElem?_toArray, List.getElem?_cons_zero, List.getElem?_cons_succ]; rfl) | rfl)
          case hQa11 => exact fun _ _ _ h => h
          case hwa11 => rfl
          case hya11 => ((intro w hSw; go_simp); first | done | with_reducible rfl)
          try simp only [Act.put, List.setIfInBounds_toArray, List.set_cons_zero, List.set_cons_succ]
          refine wpAnyH_take (i := 12) (oi := ?oia12) (v := ?va12) ?hia12 (by kernel_rfl) (by kernel_rfl) (by kernel_rfl) ?hQa12 (Or.inl ⟨?hwa12, ?hya12⟩) (by assumption) ?resta12
          case hia12 => (first | (simp only [List.getElem?_toArray, List.getElem?_cons_zero, List.getElem?_cons_succ]; rfl) | rfl)
          case hQa12 => exact fun _ _ _ h => h
          case hwa12 => rfl
          case hya12 => ((intro w hSw; go_simp); first | done | with_reducible rfl)
          try simp only [Act.put, List.setIfInBounds_toArray, List.set_cons_zero, List.set_cons_succ]
          refine wpAnyH_ready (rs := [6]) (by kernel_rfl) (by simp) ?_
          refine AllReadyH.cons (o := ?oA) ?hcA ?stA AllReadyH.nil
          case hcA => (simp only [List.getElem?_toArray, List.getElem?_cons_zero, List.getElem?_cons_succ]; rfl)
          intro K hK
          go_simp
          refine (ownName_any _ _ (by omega)).mono ?_
          rintro e w5 ⟨rfl, hb5'⟩
          have hb5 : Below W.heap.size W w5 := undrew hb5'
          have HB5 := Lib.hid hb5
          have hS5 : (fun w' => w'.cell? ⟨b, 1, none⟩ = some (.map (some bn)) ∧ w'.cell? ⟨wr.heap.size, 0, none⟩ = some (.string ⟨ky.toArray⟩) ∧ w'.cell? ⟨wr.heap.size, 1, none⟩ = some (.slice o.B o.bn o.bc)) w5 := ⟨below_cells hb5 m1, below_cells hb5 f0, below_cells hb5 f1⟩
          clear hb5 hb5'
          go_wp2_with fail
          refine hK.out _ _ hS5 (fun _ => ?_)
          clear hK K
          try simp only [Act.put, List.setIfInBounds_toArray, List.set_cons_zero, List.set_cons_succ]
          refine wpAnyH_ready (rs := [9]) (by kernel_rfl) (by simp) ?_
          refine AllReadyH.cons (o := ?oB) ?hcB ?stB AllReadyH.nil
          case hcB => (simp only [List.getElem?_toArray, List.getElem?_cons_zero, List.getElem?_cons_succ]; rfl)
          intro K hK
          go_simp
          refine (clone_any _ _ _ _ o.bs (HIN.out.b.below (below_then (below_then HM.out.below HBW.out HM.out.below.size) HB5.out (below_then HM.out.below HBW.out HM.out.below.size).size)) (by omega)).mono ?_
          rintro e w6 ⟨v6, rfl, hO6, hb6'⟩
          have hb6 : Below W.heap.size W w6 := below_then HB5.out hb6' HB5.out.size
          have HB6 := Lib.hid hb6
          have HO6 := Lib.hid (Go.Joins.ownsRow_le hO6 HB5.out.size)
          have hS6 : (fun w' => w'.cell? ⟨b, 1, none⟩ = some (.map (some bn)) ∧ w'.cell? ⟨wr.heap.size, 0, none⟩ = some (.string ⟨ky.toArray⟩) ∧ w'.cell? ⟨wr.heap.size, 1, none⟩ = some (.slice o.B o.bn o.bc)) w6 := ⟨below_cells hb6 m1, below_cells hb6 f0, below_cells hb6 f1⟩
          obtain ⟨A6, c6, hv6⟩ := own_slice hO6
          subst hv6
          clear hb6 hb6' hO6 hS5
          go_wp2_with fail
          refine hK.out _ _ hS6 (fun _ => ?_)
          clear hK K
          try simp only [Act.put, List.setIfInBounds_toArray, List.set_cons_zero, List.set_cons_succ]
          refine wpAnyH_take (i := 13) (oi := ?oib13) (v := ?vb13) ?hib13 (by kernel_rfl) (by kernel_rfl) (by kernel_rfl) ?hQb13 (Or.inl ⟨?hwb13, ?hyb13⟩) (by assumption) ?restb13
          case hib13 => (first | (simp only [List.getElem?_toArray, List.getElem?_cons_zero, List.getElem?_cons_succ]; rfl) | rfl)
          case hQb13 => exact fun _ _ _ h => h
          case hwb13 => rfl
          case hyb13 => ((intro w hSw; go_simp); first | done | with_reducible rfl)
          try simp only [Act.put, List.setIfInBounds_toArray, List.set_cons_zero, List.set_cons_succ]
          refine wpAnyH_ready (rs := [14]) (by kernel_rfl) (by simp) ?_
          refine AllReadyH.cons (o := ?oC) ?hcC ?stC AllReadyH.nil
          case hcC => (simp only [List.getElem?_toArray, List.getElem?_cons_zero, List.getElem?_cons_succ]; rfl)
          intro K hK
          go_simp
          go_simp
          have hA6 := (Below.refl w6.heap.size w6).alloc (Nat.le_refl _) (.cells #[.slice A6 o.bn c6, .int .i64 o.bn] 65)
          have hb7 : Below W.heap.size W (w6.alloc (.cells #[.slice A6 o.bn c6, .int .i64 o.bn] 65)) := below_then HB6.out hA6 HB6.out.size
          have HB7 := Lib.hid hb7
          have hS7 : (fun w' => w'.cell? ⟨b, 1, none⟩ = some (.map (some bn)) ∧ w'.cell? ⟨wr.heap.size, 0, none⟩ = some (.string ⟨ky.toArray⟩) ∧ w'.cell? ⟨wr.heap.size, 1, none⟩ = some (.slice o.B o.bn o.bc)) (w6.alloc (.cells #[.slice A6 o.bn c6, .int .i64 o.bn] 65)) := ⟨below_cells hb7 m1, below_cells hb7 f0, below_cells hb7 f1⟩
          clear hA6 hb7 hS6
          refine hK.out _ _ hS7 (fun _ => ?_)
          clear hK K
          try simp only [Act.put, List.setIfInBounds_toArray, List.set_cons_zero, List.set_cons_succ]
          refine wpAnyH_ready (rs := [15]) (by kernel_rfl) (by simp) ?_
          refine AllReadyH.cons (o := ?oD) ?hcD ?stD AllReadyH.nil
          case hcD => (simp only [List.getElem?_toArray, List.getElem?_cons_zero, List.getElem?_cons_succ]; rfl)
          intro K hK
          refine step_mapUpdate_own _ rfl _ _ _ 67 rfl 9 62 strLaw Try.underlying67 ptrElem bn 300 (toD s.now) rfl (ownsMap_block HD.out.now (HB7.out.block bn (HFLT.out bn HD.out.fn))) (by unfold maxLen; omega) _ _ (.string ky) rfl rfl HKEY.out (idLit w6.heap.size) [] rfl ?_
          intro w8 hown8 hg8
          rw [toD_put] at hown8
          have hdir8 := dirAt_fix hown8 (by have := length_dput s.now ky w6.heap.size; omega)
          have hbb : ∀ i, i < W.heap.size → i ≠ bn → w8.heap[i]? = W.heap[i]? := fun i h1 h2 => (hg8.block i (by have := HB7.out.size; omega) (fun e => h2 (Option.some.inj e))).trans (HB7.out.block i h1)
          have hbw : b < W.heap.size := HD.out.blk.lt
          have hS8 : (fun w' => w'.cell? ⟨b, 1, none⟩ = some (.map (some bn)) ∧ w'.cell? ⟨wr.heap.size, 0, none⟩ = some (.string ⟨ky.toArray⟩) ∧ w'.cell? ⟨wr.heap.size, 1, none⟩ = some (.slice o.B o.bn o.bc)) w8 := ⟨(World.cell?_of_block (a := ⟨b, 1, none⟩) (hbb b hbw hbne)).trans m1, (World.cell?_of_block (a := ⟨wr.heap.size, 0, none⟩) (hbb _ HVF.out.lt hvne)).trans f0, (World.cell?_of_block (a := ⟨wr.heap.size, 1, none⟩) (hbb _ HVF.out.lt hvne)).trans f1⟩
          have hbnl : bn < W.heap.size := HFLT.out bn HD.out.fn
          have hs6 : W.heap.size ≤ w6.heap.size := HB6.out.size
          have hs8 : w6.heap.size + 1 ≤ w8.heap.size := by have := hg8.size; simpa using this
          have hf8 : fileAt w8 w6.heap.size (.slice A6 o.bn c6) o.bs o.bs.length := by
            refine ⟨?_, ?_⟩
            · rw [HBL.out]
              exact (Blk.new w6 65 #[.slice A6 o.bn c6, .int .i64 o.bn]).grown hg8 (fun e => by have := Option.some.inj e; omega)
            · rw [HBL.out]
              exact ownsRow_block (own_alloc (Go.Joins.ownsRow_le HO6.out (Nat.zero_le _)) _) fun g hg => by
                have h1 := HO6.out.lt g hg
                exact hg8.block g (by simp; omega) (fun e => by have := Option.some.inj e; omega)
          have hD8 := HD.out.ofFile HS.out.chs (fun j hj hne => hbb j (HFLT.out j hj) hne) hdir8 (by have := length_dput s.now ky w6.heap.size; omega) (by rw [HBL.out]; omega) hf8 hs6 (fun g hg => (HO6.out.lt g hg).1)
          have hni : w6.heap.size ∉ s.ids := fun h => by have := HFLT.out _ (HD.out.fi _ h); omega
          have hwW : w.heap.size ≤ W.heap.size := by have := HM.out.below.size; omega
          have hM8 : Mine w w8 (Own F W w8) b (s.ofFile ky w6.heap.size o.bs) := ⟨⟨_, _, _, _, _, hD8⟩, fun i hi => by
            rcases hi with h1 | h1
            · exact HM.out.new i h1
            · omega, ((HM.out.below.trans (HBW.out.mono HM.out.below.size)).trans (HB7.out.mono hwW)).grown hg8 (by have := HB7.out.size; omega) (fun g e => by cases e; exact HM.out.new bn HD.out.fn)⟩
          have hS9 := HS.out.step HO.out hni
          rw [HKY.out] at hS9
          have HM8 := Lib.hid hM8
          have HS9 := Lib.hid hS9
          clear hown8 hg8 hdir8 hbb hf8 hD8 hni hM8 hS9
          refine hK.out _ _ hS8 (fun _ => ?_)
          clear hK K
          try simp only [Act.put, List.setIfInBounds_toArray, List.set_cons_zero, List.set_cons_succ]
          refine wpAnyH_done (by kernel_rfl) ?_ _
          go_wp2_with fail
          go_roundw
          case rel =>
            refine ⟨k + 1, _, _, _, by omega, by go_num, HM8.out, HS9.out, fun j p hj hp => ?_⟩
            by_cases e : j = k
            · subst e
              rw [HO.out] at hp
              cases hp
              exact HOFK.out
            · exact HOKS.out j p (by omega) hp
          case measure => simp [intOf]; omega
    · obtain rfl : k = n := by omega
      have hlz : ¬ ((k : Int) < (k : Int)) := by omega
      have hg : OfGood l := ⟨by rw [HLN.out]; exact hn64, fun j o ho => HOKS.out j o (by have := (List.getElem?_eq_some_iff.1 ho).1; have := HLN.out; omega) ho⟩
      have HGD := Lib.hid hg
      have hs := HS.out
      rw [← HLN.out] at hs
      have HSIM := Lib.hid (hs.sim hg)
      clear hg hs
      go_wp2_with fail
      refine (settle_any HM.out.disk).mono ?_
      rintro e w2 ⟨rfl, hD2, hK2⟩
      have hm2 : Mine w w2 (Own F wr w2) b { s with old := s.now, chs := [], mid := false } := ⟨hD2, fun i hi => by
        rcases hi with h1 | h1
        · exact HM.out.new i h1
        · exact Nat.le_trans HM.out.below.size h1.1, HM.out.below.trans (hK2.toBelow HM.out.below.size HM.out.new)⟩
      have HM2 := Lib.hid hm2
      clear hD2 hK2 hm2
      go_wp2
      go_ret
      exact .inr ⟨b, _, _, _, rfl, HGD.out, HM2.out, rfl, HSIM.out⟩
end Go.Proofs.Ytblpppeppgfbpaa
