/- The law CursorPlays. -/
import Derived.Test.YthmjanhdjchdbaaCuBoth
import Derived.Lib.MinMax
import Derived.Deep.RegionHeld3
import Derived.Lib.SmallJoins
namespace Go.Proofs.Ythmjanhdjchdbaa
open Go.RowKit Go.Maps Go.WideMaps
set_option linter.unusedSimpArgs false

set_option maxHeartbeats 16000000 in
set_option maxRecDepth 100000 in
theorem cursorPlays_any {K : World → (Nat → Prop) → Nat → CSt → Prop} (hK : CursorOk K) (W : World) (A : Option Addr) (n c : Nat) (l : List Pst) (hl : PostsSz W A n l) (B : Option Addr) (m cm : Nat) (ops : List (Int × Int)) (ho : PairsIn W B m ops) (hm : m ≤ 140737488351232) :
    Calls Try.prog 3 #[.slice A n c, .slice B m cm] W fun e w' => e = .returned (.bool true) ∧ Below W.heap.size W w' := by
  have hep := eqCurNil
  have hrp := eqRefNil
  have HK := Lib.hid hK
  have HH := Lib.hid (cuHead_any hK W)
  have HL := Lib.hid hl
  have HOP := Lib.hid ho
  have hll := hl.1.len
  have HLN := Lib.hid hll
  have hn63 : n ≤ 140737488351232 := hl.2.2
  clear hl hK hll ho
  go_enter Try.func3, Try.ntmps3
  go_wp2_with fail
  refine HH.out.mono ?_
  rintro e w1 ⟨rfl, hb1⟩
  have HB1 := Lib.hid hb1
  have HG := Lib.hid (cuGreat_any w1 A n c l (HL.out.1.below HB1.out) HL.out.2.2 HL.out.2.1)
  clear hb1
  go_wp2_with fail
  refine HG.out.mono ?_
  rintro e w3 ⟨r, rfl, hw3, hr⟩
  rw [hw3]
  clear hw3
  cases r with
  | true =>
    clear hr
    go_wp2
    go_ret
    exact ⟨rfl, HB1.out⟩
  | false =>
    obtain ⟨hn2, hx2⟩ := hr rfl
    have hn4 : n < 10000 := by omega
    clear hr hx2 hn2
    by_cases hm4 : 400 < m
    · have d1 : decide ((400 : Int) < (m : Int)) = true := decide_eq_true (by omega)
      go_wp2
      go_ret
      exact ⟨rfl, HB1.out⟩
    · have d1 : decide ((400 : Int) < (m : Int)) = false := decide_eq_false (by omega)
      obtain ⟨Z, hZ⟩ : ∃ Z, putE l = Z := ⟨_, rfl⟩
      have HZ := Lib.hid hZ
      have HCB := Lib.hid (cuBytes_any w1 A n c l (HL.out.1.below HB1.out) (by omega) hZ)
      have hzl : Z.length ≤ 368803860 := by rw [← hZ]; exact putE_len (fit_of HL.out.1)
      clear hZ
      go_wp2_with fail
      refine HCB.out.mono ?_
      rintro e w2 ⟨X, cx, rfl, hi2, hcx, -, hb2⟩
      have HB2 := Lib.hid (below_then HB1.out hb2 HB1.out.size)
      have HI2 := Lib.hid hi2
      clear hb2 hi2 HCB
      obtain ⟨l', E, hg⟩ : ∃ l' E, getP Z = (l', E) := ⟨_, _, rfl⟩
      have HGG := Lib.hid hg
      by_cases hE : E = 0
      · subst hE
        have HN := Lib.hid (cur_new HK.out HB2.out HI2.out hcx (by omega) HGG.out)
        clear hg
        go_wp2_with fail
        refine HN.out.mono ?_
        rintro e w4 ⟨b1, F, rfl, hcu, hbn, -⟩
        have HC4 := Lib.hid hcu
        have HN2 := Lib.hid (r10New_any w4 X Z.length cx Z (HI2.out.below hbn) hcx (by omega) HGG.out)
        clear hcu HN hbn
        go_wp2_with fail
        refine HN2.out.mono ?_
        rintro e w5 ⟨hb5, hcase⟩
        rcases hcase with ⟨hne, -⟩ | ⟨-, bd, rfl, hbd, hR⟩
        case inl => exact absurd rfl hne
        have HD := Lib.hid (Both.made HK.out HC4.out hb5 hR hbd)
        obtain ⟨lo, hlo⟩ : ∃ lo, lo = w4.heap.size := ⟨_, rfl⟩
        rw [← hlo] at HD
        clear hb5 hR hbd HN2 hlo
        go_wp2
        go_loopw [11] (fun iv wr => ∃ (i : Nat) (F' : Nat → Prop) (s : CSt), i ≤ m ∧ iv = .int .i64 i ∧ Both K W wr F' b1 s lo bd s l') (fun iv _ => m + 1 - (Go.RowKit.intOf iv).toNat)
        case atStart => exact ⟨0, F, _, by omega, rfl, HD.out⟩
        case round =>
          obtain ⟨i, F', s, him, rfl, hbo⟩ := hrel
          have HBO := Lib.hid hbo
          have d2 : decide ((i : Int) ≤ (m : Int)) = true := decide_eq_true (by omega)
          have hle : (i : Int) ≤ (m : Int) := by omega
          obtain ⟨D, hD⟩ : ∃ D, D = cDoc s := ⟨_, rfl⟩
          obtain ⟨I, hI⟩ : ∃ I, I = cIn s := ⟨_, rfl⟩
          obtain ⟨P, hP⟩ : ∃ P, P = cSpots s := ⟨_, rfl⟩
          obtain ⟨R, hR⟩ : ∃ R, R = s.read := ⟨_, rfl⟩
          have HDA := Lib.hid (cur_doc HK.out HBO.out.one)
          rw [← hD, ← hI] at HDA
          have HDD := Lib.hid hD
          have HII := Lib.hid hI
          have HPP := Lib.hid hP
          have HRR := Lib.hid hR
          clear hbo hD hI hP hR
          go_wp2_with fail
          refine HDA.out.mono ?_
          rintro e w6 ⟨rfl, hb6⟩
          have HBO6 := Lib.hid (HBO.out.later HK.out hb6)
          have HDB := Lib.hid (r10Doc_any HBO6.out.two)
          rw [← HDD.out, ← HII.out] at HDB
          clear hb6 HDA
          go_wp2_with fail
          refine HDB.out.mono ?_
          rintro e w7 ⟨rfl, q7, hw7⟩
          have HBO7 : Hid (Both K W w7 F' b1 s lo bd s l') := Lib.hid (by rw [hw7]; exact HBO6.out.later HK.out (below_drewN (Below.refl _ _) q7))
          clear hw7 HDB
          obtain ⟨wo, hwo⟩ : ∃ z, z = wr := ⟨_, rfl⟩
          clear hwo
          obtain ⟨wr, rfl⟩ : ∃ z, z = w7 := ⟨_, rfl⟩
          have HSP : Hid (∀ u, Below wr.heap.size wr u → Calls Try.prog 16 #[.pointer (some ⟨b1, 0, none⟩)] u (SpotsOut u P)) := Lib.hid (fun u hu => by
            have h1 := HBO7.out.later HK.out hu
            have h2 := HK.out.spots h1.one.at_ h1.one.wf
            rw [← HPP.out] at h2
            exact h2)
          have HSP2 : Hid (∀ u, Below wr.heap.size wr u → Calls Try.prog 17 #[.pointer (some ⟨bd, 0, none⟩)] u (SpotsOut u P)) := Lib.hid (fun u hu => by
            have h2 := r10Spots_any (HBO7.out.later HK.out hu).two
            rw [← HPP.out] at h2
            exact h2)
          have HRD : Hid (∀ u, Below wr.heap.size wr u → Calls Try.prog 18 #[.pointer (some ⟨b1, 0, none⟩)] u fun e w' => e = .returned (.int .i64 (R : Int)) ∧ Below u.heap.size u w') := Lib.hid (fun u hu => by
            have h2 := cur_reads HK.out (HBO7.out.later HK.out hu).one
            rw [← HRR.out] at h2
            exact h2)
          have HSS : Hid (∀ u, Below wr.heap.size wr u → u.cell? ⟨bd, 2, none⟩ = some (.int .i64 (R : Int))) := Lib.hid (fun u hu => by
            obtain ⟨Ax, cc, hx⟩ := (HBO7.out.later HK.out hu).two.sees
            rw [HRR.out]
            exact hx.blk.cell 2)
          have n1 : (D != D) = false := by simp
          have n2 : (I != I) = false := by simp
          have n3 : ((R : Int) != (R : Int)) = false := by simp
          go_wp2_with fail
          refine wp_region_held_drew (S := fun w' => w'.cell? ⟨bd, 2, none⟩ = some (.int .i64 (R : Int))) (by kernel_rfl) (HSS.out wr (Below.refl _ _)) (fun hHeld => ?_)
          obtain ⟨u0, hu0⟩ : ∃ z, z = wr.drew := ⟨_, rfl⟩
          rw [← hu0]
          have HBU : Hid (Below wr.heap.size wr u0) := Lib.hid (by rw [hu0]; exact (Below.refl _ wr).drew)
          have hSu := HSS.out _ HBU.out
          clear hu0
          refine wpAnyH_take (i := 0) (oi := ?oiy10) (v := ?vy10) ?hiy10 (by kernel_rfl) (by kernel_rfl) (by kernel_rfl) ?hQy10 (Or.inl ⟨?hwy10, ?hyy10⟩) (by assumption) ?resty10
          case hiy10 => (first | (simp only [List.getElem?_toArray, List.getElem?_cons_zero, List.getElem?_cons_succ]; rfl) | rfl)
          case hQy10 => exact fun _ _ _ h => h
          case hwy10 => rfl
          case hyy10 => ((intro w hSw; go_simp); first | done | with_reducible rfl)
          try simp only [Act.put, List.setIfInBounds_toArray, List.set_cons_zero, List.set_cons_succ]
          refine wpAnyH_take (i := 1) (oi := ?oiy21) (v := ?vy21) ?hiy21 (by kernel_rfl) (by kernel_rfl) (by kernel_rfl) ?hQy21 (Or.inl ⟨?hwy21, ?hyy21⟩) (by assumption) ?resty21
          case hiy21 => (first | (simp only [List.getElem?_toArray, List.getElem?_cons_zero, List.getElem?_cons_succ]; rfl) | rfl)
          case hQy21 => exact fun _ _ _ h => h
          case hwy21 => rfl
          case hyy21 => ((intro w hSw; go_simp); first | done | with_reducible rfl)
          try simp only [Act.put, List.setIfInBounds_toArray, List.set_cons_zero, List.set_cons_succ]
          refine wpAnyH_take (i := 2) (oi := ?oiy32) (v := ?vy32) ?hiy32 (by kernel_rfl) (by kernel_rfl) (by kernel_rfl) ?hQy32 (Or.inl ⟨?hwy32, ?hyy32⟩) (by assumption) ?resty32
          case hiy32 => (first | (simp only [List.getElem?_toArray, List.getElem?_cons_zero, List.getElem?_cons_succ]; rfl) | rfl)
          case hQy32 => exact fun _ _ _ h => h
          case hwy32 => rfl
          case hyy32 => ((intro w hSw; go_simp); first | done | with_reducible rfl)
          try simp only [Act.put, List.setIfInBounds_toArray, List.set_cons_zero, List.set_cons_succ]
          refine wpAnyH_take (i := 3) (oi := ?oiy43) (v := ?vy43) ?hiy43 (by kernel_rfl) (by kernel_rfl) (by kernel_rfl) ?hQy43 (Or.inl ⟨?hwy43, ?hyy43⟩) (by assumption) ?resty43
          case hiy43 => (first | (simp only [List.getElem?_toArray, List.getElem?_cons_zero, List.getElem?_cons_succ]; rfl) | rfl)
          case hQy43 => exact fun _ _ _ h => h
          case hwy43 => rfl
          case hyy43 => ((intro w hSw; go_simp); first | done | with_reducible rfl)
          try simp only [Act.put, List.setIfInBounds_toArray, List.set_cons_zero, List.set_cons_succ]
          refine wpAnyH_take (i := 4) (oi := ?oiy54) (v := ?vy54) ?hiy54 (by kernel_rfl) (by kernel_rfl) (by kernel_rfl) ?hQy54 (Or.inl ⟨?hwy54, ?hyy54⟩) (by assumption) ?resty54
          case hiy54 => (first | (simp only [List.getElem?_toArray, List.getElem?_cons_zero, List.getElem?_cons_succ]; rfl) | rfl)
          case hQy54 => exact fun _ _ _ h => h
          case hwy54 => rfl
          case hyy54 => ((intro w hSw; go_simp); first | done | with_reducible rfl)
          try simp only [Act.put, List.setIfInBounds_toArray, List.set_cons_zero, List.set_cons_succ]
          refine wpAnyH_take (i := 5) (oi := ?oiy65) (v := ?vy65) ?hiy65 (by kernel_rfl) (by kernel_rfl) (by kernel_rfl) ?hQy65 (Or.inl ⟨?hwy65, ?hyy65⟩) (by assumption) ?resty65
          case hiy65 => (first | (simp only [List.getElem?_toArray, List.getElem?_cons_zero, List.getElem?_cons_succ]; rfl) | rfl)
          case hQy65 => exact fun _ _ _ h => h
          case hwy65 => rfl
          case hyy65 => ((intro w hSw; go_simp); first | done | with_reducible rfl)
          try simp only [Act.put, List.setIfInBounds_toArray, List.set_cons_zero, List.set_cons_succ]
          refine wpAnyH_take (i := 6) (oi := ?oiy76) (v := ?vy76) ?hiy76 (by kernel_rfl) (by kernel_rfl) (by kernel_rfl) ?hQy76 (Or.inl ⟨?hwy76, ?hyy76⟩) (by assumption) ?resty76
          case hiy76 => (first | (simp only [List.getElem?_toArray, List.getElem?_cons_zero, List.getElem?_cons_succ]; rfl) | rfl)
          case hQy76 => exact fun _ _ _ h => h
          case hwy76 => rfl
          case hyy76 => ((intro w hSw; go_simp); first | done | with_reducible rfl)
          try simp only [Act.put, List.setIfInBounds_toArray, List.set_cons_zero, List.set_cons_succ]
          refine wpAnyH_take (i := 7) (oi := ?oiy87) (v := ?vy87) ?hiy87 (by kernel_rfl) (by kernel_rfl) (by kernel_rfl) ?hQy87 (Or.inl ⟨?hwy87, ?hyy87⟩) (by assumption) ?resty87
          case hiy87 => (first | (simp only [List.getElem?_toArray, List.getElem?_cons_zero, List.getElem?_cons_succ]; rfl) | rfl)
          case hQy87 => exact fun _ _ _ h => h
          case hwy87 => rfl
          case hyy87 => ((intro w hSw; go_simp); first | done | with_reducible rfl)
          try simp only [Act.put, List.setIfInBounds_toArray, List.set_cons_zero, List.set_cons_succ]
          refine wpAnyH_take (i := 8) (oi := ?oiy98) (v := ?vy98) ?hiy98 (by kernel_rfl) (by kernel_rfl) (by kernel_rfl) ?hQy98 (Or.inl ⟨?hwy98, ?hyy98⟩) (by assumption) ?resty98
          case hiy98 => (first | (simp only [List.getElem?_toArray, List.getElem?_cons_zero, List.getElem?_cons_succ]; rfl) | rfl)
          case hQy98 => exact fun _ _ _ h => h
          case hwy98 => rfl
          case hyy98 => ((intro w hSw; go_simp); first | done | with_reducible rfl)
          try simp only [Act.put, List.setIfInBounds_toArray, List.set_cons_zero, List.set_cons_succ]
          refine wpAnyH_take (i := 9) (oi := ?oiy109) (v := ?vy109) ?hiy109 (by kernel_rfl) (by kernel_rfl) (by kernel_rfl) ?hQy109 (Or.inl ⟨?hwy109, ?hyy109⟩) (by assumption) ?resty109
          case hiy109 => (first | (simp only [List.getElem?_toArray, List.getElem?_cons_zero, List.getElem?_cons_succ]; rfl) | rfl)
          case hQy109 => exact fun _ _ _ h => h
          case hwy109 => rfl
          case hyy109 => ((intro w hSw; go_simp); first | done | with_reducible rfl)
          try simp only [Act.put, List.setIfInBounds_toArray, List.set_cons_zero, List.set_cons_succ]
          refine wpAnyH_take (i := 11) (oi := ?oiy1111) (v := ?vy1111) ?hiy1111 (by kernel_rfl) (by kernel_rfl) (by kernel_rfl) ?hQy1111 (Or.inl ⟨?hwy1111, ?hyy1111⟩) (by assumption) ?resty1111
          case hiy1111 => (first | (simp only [List.getElem?_toArray, List.getElem?_cons_zero, List.getElem?_cons_succ]; rfl) | rfl)
          case hQy1111 => exact fun _ _ _ h => h
          case hwy1111 => rfl
          case hyy1111 => ((intro w hSw; go_simp); first | done | with_reducible rfl)
          try simp only [Act.put, List.setIfInBounds_toArray, List.set_cons_zero, List.set_cons_succ]
          refine wpAnyH_ready (rs := [10]) (by kernel_rfl) (by simp) ?_
          refine AllReadyH.cons (o := ?oy12) ?hy12 ?sy12 AllReadyH.nil
          case hy12 => (simp only [List.getElem?_toArray, List.getElem?_cons_zero, List.getElem?_cons_succ]; rfl)
          case sy12 =>
            intro K hK
            go_simp
            refine (HSP.out _ HBU.out).mono ?_
            rintro e u1 ⟨A1, k1, rfl, hp1, hb1⟩
            have HP1 := Lib.hid hp1
            have HU1 := Lib.hid (below_then HBU.out hb1 HBU.out.size)
            have hS1 := HSS.out _ HU1.out
            clear hp1 hb1
            go_wp2_with fail
            refine hK.out _ _ (HSS.out _ HU1.out) (fun hy13 => ?_)
            clear hK K
            try simp only [Act.put, List.setIfInBounds_toArray, List.set_cons_zero, List.set_cons_succ]
            refine wpAnyH_ready (rs := [12]) (by kernel_rfl) (by simp) ?_
            refine AllReadyH.cons (o := ?oy14) ?hy14 ?sy14 AllReadyH.nil
            case hy14 => (simp only [List.getElem?_toArray, List.getElem?_cons_zero, List.getElem?_cons_succ]; rfl)
            case sy14 =>
              intro K hK
              go_simp
              refine (HSP2.out _ HU1.out).mono ?_
              rintro e u2 ⟨A2, k2, rfl, hp2, hb2⟩
              have HP2 := Lib.hid hp2
              have HP1 := Lib.hid (HP1.out.below hb2)
              have HU2 := Lib.hid (below_then HU1.out hb2 HU1.out.size)
              have hS2 := HSS.out _ HU2.out
              clear hp2 hb2
              go_wp2_with fail
              refine hK.out _ _ (HSS.out _ HU2.out) (fun hy15 => ?_)
              clear hK K
              try simp only [Act.put, List.setIfInBounds_toArray, List.set_cons_zero, List.set_cons_succ]
              refine wpAnyH_ready (rs := [13]) (by kernel_rfl) (by simp) ?_
              refine AllReadyH.cons (o := ?oy16) ?hy16 ?sy16 AllReadyH.nil
              case hy16 => (simp only [List.getElem?_toArray, List.getElem?_cons_zero, List.getElem?_cons_succ]; rfl)
              case sy16 =>
                intro K hK
                go_simp
                have hss := r9SameSpots_any u2 A1 A2 P.length P.length k1 k2 P P HP1.out HP2.out
                rw [show decide (P = P) = true by simp] at hss
                have HSM := Lib.hid hss
                clear hss
                refine HSM.out.mono ?_
                rintro e u3 ⟨rfl, q2, hu3⟩
                have HU3 : Hid (Below wr.heap.size wr u3) := Lib.hid (by rw [hu3]; exact below_drewN HU2.out q2)
                have hS3 := HSS.out _ HU3.out
                clear hu3
                go_wp2_with fail
                refine hK.out _ _ (HSS.out _ HU3.out) (fun hy17 => ?_)
                clear hK K
                try simp only [Act.put, List.setIfInBounds_toArray, List.set_cons_zero, List.set_cons_succ]
                refine wpAnyH_take (i := 14) (oi := ?oiy1814) (v := ?vy1814) ?hiy1814 (by kernel_rfl) (by kernel_rfl) (by kernel_rfl) ?hQy1814 (Or.inl ⟨?hwy1814, ?hyy1814⟩) (by assumption) ?resty1814
                case hiy1814 => (first | (simp only [List.getElem?_toArray, List.getElem?_cons_zero, List.getElem?_cons_succ]; rfl) | rfl)
                case hQy1814 => exact fun _ _ _ h => h
                case hwy1814 => rfl
                case hyy1814 => ((intro w hSw; go_simp); first | done | with_reducible rfl)
                try simp only [Act.put, List.setIfInBounds_toArray, List.set_cons_zero, List.set_cons_succ]
                refine wpAnyH_take (i := 15) (oi := ?oiy1915) (v := ?vy1915) ?hiy1915 (by kernel_rfl) (by kernel_rfl) (by kernel_rfl) ?hQy1915 (Or.inl ⟨?hwy1915, ?hyy1915⟩) (by assumption) ?resty1915
                case hiy1915 => (first | (simp only [List.getElem?_toArray, List.getElem?_cons_zero, List.getElem?_cons_succ]; rfl) | rfl)
                case hQy1915 => exact fun _ _ _ h => h
                case hwy1915 => rfl
                case hyy1915 => ((intro w hSw; go_simp); first | done | with_reducible rfl)
                try simp only [Act.put, List.setIfInBounds_toArray, List.set_cons_zero, List.set_cons_succ]
                refine wpAnyH_take (i := 16) (oi := ?oiy2016) (v := ?vy2016) ?hiy2016 (by kernel_rfl) (by kernel_rfl) (by kernel_rfl) ?hQy2016 (Or.inl ⟨?hwy2016, ?hyy2016⟩) (by assumption) ?resty2016
                case hiy2016 => (first | (simp only [List.getElem?_toArray, List.getElem?_cons_zero, List.getElem?_cons_succ]; rfl) | rfl)
                case hQy2016 => exact fun _ _ _ h => h
                case hwy2016 => rfl
                case hyy2016 => ((intro w hSw; go_simp); first | done | with_reducible rfl)
                try simp only [Act.put, List.setIfInBounds_toArray, List.set_cons_zero, List.set_cons_succ]
                refine wpAnyH_take (i := 17) (oi := ?oiy2117) (v := ?vy2117) ?hiy2117 (by kernel_rfl) (by kernel_rfl) (by kernel_rfl) ?hQy2117 (Or.inl ⟨?hwy2117, ?hyy2117⟩) (by assumption) ?resty2117
                case hiy2117 => (first | (simp only [List.getElem?_toArray, List.getElem?_cons_zero, List.getElem?_cons_succ]; rfl) | rfl)
                case hQy2117 => exact fun _ _ _ h => h
                case hwy2117 => rfl
                case hyy2117 => ((intro w hSw; go_simp); first | done | with_reducible rfl)
                try simp only [Act.put, List.setIfInBounds_toArray, List.set_cons_zero, List.set_cons_succ]
                refine wpAnyH_take (i := 19) (oi := ?oiy2219) (v := ?vy2219) ?hiy2219 (by kernel_rfl) (by kernel_rfl) (by kernel_rfl) ?hQy2219 (Or.inl ⟨?hwy2219, ?hyy2219⟩) (by assumption) ?resty2219
                case hiy2219 => (first | (simp only [List.getElem?_toArray, List.getElem?_cons_zero, List.getElem?_cons_succ]; rfl) | rfl)
                case hQy2219 => exact fun _ _ _ h => h
                case hwy2219 => rfl
                case hyy2219 => ((intro w hSw; go_simp); first | done | with_reducible rfl)
                try simp only [Act.put, List.setIfInBounds_toArray, List.set_cons_zero, List.set_cons_succ]
                refine wpAnyH_take (i := 20) (oi := ?oiy2320) (v := ?vy2320) ?hiy2320 (by kernel_rfl) (by kernel_rfl) (by kernel_rfl) ?hQy2320 (Or.inl ⟨?hwy2320, ?hyy2320⟩) (by assumption) ?resty2320
                case hiy2320 => (first | (simp only [List.getElem?_toArray, List.getElem?_cons_zero, List.getElem?_cons_succ]; rfl) | rfl)
                case hQy2320 => exact fun _ _ _ h => h
                case hwy2320 => rfl
                case hyy2320 => ((intro w hSw; go_simp); first | done | with_reducible rfl)
                try simp only [Act.put, List.setIfInBounds_toArray, List.set_cons_zero, List.set_cons_succ]
                refine wpAnyH_take (i := 21) (oi := ?oiy2421) (v := ?vy2421) ?hiy2421 (by kernel_rfl) (by kernel_rfl) (by kernel_rfl) ?hQy2421 (Or.inl ⟨?hwy2421, ?hyy2421⟩) (by assumption) ?resty2421
                case hiy2421 => (first | (simp only [List.getElem?_toArray, List.getElem?_cons_zero, List.getElem?_cons_succ]; rfl) | rfl)
                case hQy2421 => exact fun _ _ _ h => h
                case hwy2421 => rfl
                case hyy2421 => ((intro w hSw; go_simp); first | done | with_reducible rfl)
                try simp only [Act.put, List.setIfInBounds_toArray, List.set_cons_zero, List.set_cons_succ]
                refine wpAnyH_take (i := 22) (oi := ?oiy2522) (v := ?vy2522) ?hiy2522 (by kernel_rfl) (by kernel_rfl) (by kernel_rfl) ?hQy2522 (Or.inl ⟨?hwy2522, ?hyy2522⟩) (by assumption) ?resty2522
                case hiy2522 => (first | (simp only [List.getElem?_toArray, List.getElem?_cons_zero, List.getElem?_cons_succ]; rfl) | rfl)
                case hQy2522 => exact fun _ _ _ h => h
                case hwy2522 => rfl
                case hyy2522 => ((intro w hSw; go_simp); first | done | with_reducible rfl)
                try simp only [Act.put, List.setIfInBounds_toArray, List.set_cons_zero, List.set_cons_succ]
                refine wpAnyH_ready (rs := [18]) (by kernel_rfl) (by simp) ?_
                refine AllReadyH.cons (o := ?oy26) ?hy26 ?sy26 AllReadyH.nil
                case hy26 => (simp only [List.getElem?_toArray, List.getElem?_cons_zero, List.getElem?_cons_succ]; rfl)
                case sy26 =>
                  intro K hK
                  go_simp
                  refine (HRD.out _ HU3.out).mono ?_
                  rintro e u4 ⟨rfl, hb4⟩
                  have HU4 := Lib.hid (below_then HU3.out hb4 HU3.out.size)
                  have hS4 := HSS.out _ HU4.out
                  clear hb4
                  go_wp2_with fail
                  refine hK.out _ _ (HSS.out _ HU4.out) (fun hy27 => ?_)
                  clear hK K
                  try simp only [Act.put, List.setIfInBounds_toArray, List.set_cons_zero, List.set_cons_succ]
                  refine wpAnyH_take (i := 23) (oi := ?oiy2823) (v := ?vy2823) ?hiy2823 (by kernel_rfl) (by kernel_rfl) (by kernel_rfl) ?hQy2823 (Or.inl ⟨?hwy2823, ?hyy2823⟩) (by assumption) ?resty2823
                  case hiy2823 => (first | (simp only [List.getElem?_toArray, List.getElem?_cons_zero, List.getElem?_cons_succ]; rfl) | rfl)
                  case hQy2823 => exact fun _ _ _ h => h
                  case hwy2823 => rfl
                  case hyy2823 => ((intro w hSw; go_simp); first | done | with_reducible rfl)
                  try simp only [Act.put, List.setIfInBounds_toArray, List.set_cons_zero, List.set_cons_succ]
                  refine wpAnyH_take (i := 24) (oi := ?oiy2924) (v := ?vy2924) ?hiy2924 (by kernel_rfl) (by kernel_rfl) (by kernel_rfl) ?hQy2924 (Or.inl ⟨?hwy2924, ?hyy2924⟩) (by assumption) ?resty2924
                  case hiy2924 => (first | (simp only [List.getElem?_toArray, List.getElem?_cons_zero, List.getElem?_cons_succ]; rfl) | rfl)
                  case hQy2924 => exact fun _ _ _ h => h
                  case hwy2924 => rfl
                  case hyy2924 => ((intro w hSw; go_simp); first | done | with_reducible rfl)
                  try simp only [Act.put, List.setIfInBounds_toArray, List.set_cons_zero, List.set_cons_succ]
                  refine wpAnyH_done (by kernel_rfl) ?_ _
                  have HBO8 := Lib.hid (HBO7.out.later HK.out HU4.out)
                  clear hHeld n1 n2 n3
                  rcases Nat.lt_or_ge i m with hlt | hge
                  · have d3 : ((i : Int) == (m : Int)) = false := beq_eq_false_iff_ne.2 (by omega)
                    have hlt' : (i : Int) < (m : Int) := by omega
                    have p0 : (0 : Int) ≤ (i : Int) := by omega
                    have hw9 : IntKind.i64.wrap ((i : Int) + 1) = (i : Int) + 1 := IntWalk.i64_in _ (by omega)
                    obtain ⟨pa, ⟨x, y⟩, rfl, -, a0, a1, hfx, hfy⟩ := (HOP.out.below HBO8.out.one.below).at i hlt
                    simp only at a0 a1 hfx hfy
                    have HA0 : Hid (∀ u, Below W.heap.size W u → u.cell? ⟨(pa.add (i * 2)).block, (pa.add (i * 2)).off + 1, none⟩ = some (.int .i64 y)) := Lib.hid (fun u hu => by
                      obtain ⟨pa', p', e1, e2, -, e4, -, -⟩ := (HOP.out.below hu).at i hlt
                      obtain ⟨pa'', p'', f1, f2, -, f4, -, -⟩ := (HOP.out.below HBO8.out.one.below).at i hlt
                      cases e1
                      cases f1
                      rw [e2] at f2
                      cases f2
                      rw [f4] at a1
                      cases a1
                      exact e4)
                    by_cases hx0 : x = 0
                    · have d4 : (x == 0) = true := by simpa using hx0
                      have HNX := Lib.hid (both_next HK.out HBO8.out)
                      clear hx0 a1
                      go_wp2_with fail
                      refine HNX.out.mono ?_
                      rintro e w9 ⟨rfl, F9, hb9⟩
                      have HBO9 := Lib.hid hb9
                      have HNY := Lib.hid (both_next2 HK.out hb9)
                      obtain ⟨z, hz⟩ : ∃ z, z = cIn (cNext s) := ⟨_, rfl⟩
                      rw [← hz] at HNY ⊢
                      have n4 : (z != z) = false := by simp
                      clear hb9 HNX hz
                      go_wp2_with fail
                      refine HNY.out.mono ?_
                      rintro e w10 ⟨rfl, hb10⟩
                      have HBO10 := Lib.hid hb10
                      clear hb10 HNY
                      go_wp2
                      go_roundw
                      case rel => exact ⟨i + 1, F9, _, by omega, by go_num, HBO10.out⟩
                      case measure => simp [Go.RowKit.intOf]; omega
                    · have d4 : (x == 0) = false := by simpa using hx0
                      have HNX := Lib.hid (both_skip HK.out HBO8.out y hfy)
                      clear hx0
                      go_wp2_with fail
                      refine HNX.out.mono ?_
                      rintro e w9 ⟨rfl, F9, hb9⟩
                      have HBO9 := Lib.hid hb9
                      have HNY := Lib.hid (both_skip2 HK.out hb9 y)
                      have a2 := HA0.out w9 hb9.one.below
                      obtain ⟨z, hz⟩ : ∃ z, z = cIn (cSkip s y) := ⟨_, rfl⟩
                      rw [← hz] at HNY ⊢
                      have n4 : (z != z) = false := by simp
                      clear hb9 HNX hz a1
                      go_wp2_with fail
                      refine HNY.out.mono ?_
                      rintro e w10 ⟨rfl, hb10⟩
                      have HBO10 := Lib.hid hb10
                      clear hb10 HNY a2
                      go_wp2
                      go_roundw
                      case rel => exact ⟨i + 1, F9, _, by omega, by go_num, HBO10.out⟩
                      case measure => simp [Go.RowKit.intOf]; omega
                  · have d3 : ((i : Int) == (m : Int)) = true := by simp; omega
                    have HB8 := Lib.hid HBO8.out.one.below
                    go_wp2
                    go_ret
                    exact ⟨rfl, HB8.out⟩
      · have hnb := HK.out.new_bad w2 X Z.length cx Z HI2.out hcx (by omega) (by rw [hg]; exact hE)
        rw [hg] at hnb
        have HNB := Lib.hid hnb
        have HEE := Lib.hid hE
        clear hg hnb hE
        go_wp2_with fail
        refine HNB.out.mono ?_
        rintro e w4 ⟨rfl, hb4⟩
        have HB4 := Lib.hid (below_then HB2.out hb4 HB2.out.size)
        have HN2 := Lib.hid (r10New_any w4 X Z.length cx Z (HI2.out.below hb4) hcx (by omega) HGG.out)
        clear hb4 HNB
        go_wp2_with fail
        refine HN2.out.mono ?_
        rintro e w5 ⟨hb5, hcase⟩
        rcases hcase with ⟨-, rfl⟩ | ⟨hz, -⟩
        case inr => exact absurd hz HEE.out
        have HB5 := Lib.hid (below_then HB4.out hb5 HB4.out.size)
        have n1 : (E == E) = true := by simp
        clear hb5 HN2
        go_wp2
        go_ret
        exact ⟨rfl, HB5.out⟩
end Go.Proofs.Ythmjanhdjchdbaa
