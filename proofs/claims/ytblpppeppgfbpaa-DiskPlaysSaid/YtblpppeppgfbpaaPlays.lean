/- DiskPlays, walked. -/
import Derived.Test.YtblpppeppgfbpaaPlaysMath
import Derived.Test.YtblpppeppgfbpaaKStr
import Derived.Deep.RegionHeld3
namespace Go.Proofs.Ytblpppeppgfbpaa
open Go.RowKit Go.Maps Go.WideMaps

/-- Inside a region that draws, more may be known from here on. -/
theorem heldMore {P : Program} {md : Region.Mode} {ops : Array Oper} {Q : Exit → Act → World → Prop} {S S' : World → Prop} (h : ∀ w, S' w → S w) : ∀ (fuel : Nat) (listed : Array Bool) (a : Act) (w : World), wpAnyH P md ops Q S' fuel listed a w → wpAnyH P md ops Q S fuel listed a w
  | 0, _, _, _, k => k
  | fuel + 1, _, _, _, k => ⟨k.1, fun i hi => wpOp_mono (fun a' w' h' => ⟨h w' h'.1, heldMore h fuel _ a' w' h'.2⟩) (k.2 i hi)⟩
theorem str_later {w : World} {A : Option Addr} {n c : Nat} {l : Nm} (h : BytesIn w A n l) : ∀ w', Below w.heap.size w w' → (convert 33 9 (.slice A n c)).run Try.prog w' = .ok (.string ⟨l.toArray⟩) w' := fun _ hb => str_of (h.below hb) c
theorem below_then2 {a b c : World} (h : Below a.heap.size a b) (k : Below b.heap.size b c) : Below a.heap.size a c := below_then h k h.size

set_option linter.unusedSimpArgs false in
set_option maxHeartbeats 8000000 in
set_option maxRecDepth 100000 in
theorem diskPlays_any (w : World) (room : Int) (hroom : room ≤ 9223372036854775807) (A0 : Option Addr) (n0 c0 : Nat) (l0 : List FlV) (h0 : FlsIn w A0 n0 l0) (A : Option Addr) (n c : Nat) (l : List OpV) (h : OpsIn w A n l) :
    Calls Try.prog 3 #[.int .i64 room, .slice A0 n0 c0, .slice A n c] w fun e w' => e = .returned (.bool true) ∧ Below w.heap.size w w' := by
  have H0 := Lib.hid h0
  have hn := h.len
  have hbig := h.big
  have H := Lib.hid h
  have HN := Lib.hid hn
  have hn2 : n ≤ 1599289641265 := by omega
  clear h h0 hn hbig
  go_enter Try.func3, Try.ntmps3
  go_wp2_with fail
  refine (head_any w).mono ?_
  rintro e w1 ⟨rfl, hb⟩
  have B1 := Lib.hid hb
  clear hb
  go_wp2_with fail
  refine (greatFiles_any (H0.out.below B1.out) c0).mono ?_
  rintro e w2 ⟨g0, m2, rfl, hw, hg0⟩
  have B2 : Hid (Below w.heap.size w w2) := Lib.hid (by rw [hw]; exact below_drewN B1.out _)
  clear hw B1
  cases g0 with
  | true =>
    clear hg0
    go_wp2
    go_ret
    exact ⟨rfl, B2.out⟩
  | false =>
    clear hg0
    go_wp2_with fail
    refine (Great_any (H.out.below B2.out) c).mono ?_
    rintro e w3 ⟨g, m3, rfl, hw, hg⟩
    have B3 : Hid (Below w.heap.size w w3) := Lib.hid (by rw [hw]; exact below_drewN B2.out _)
    clear hw B2
    cases g with
    | true =>
      clear hg
      go_wp2
      go_ret
      exact ⟨rfl, B3.out⟩
    | false =>
      have HG := Lib.hid (hg rfl)
      clear hg
      go_wp2_with fail
      refine (pOf_any (H0.out.below B3.out) c0 room hroom).mono ?_
      intro e w4 hP
      rcases hP with ⟨rfl, hng, hB4⟩ | ⟨b, F, s, f, rfl, hgd, hM, hmid, hsim⟩
      · have B4 := Lib.hid (below_then2 B3.out hB4)
        have HNG := Lib.hid hng
        clear hB4 hng
        go_wp2_with fail
        refine (r1Of_any (H0.out.below B4.out) c0 room hroom).mono ?_
        rintro e w5 ⟨hB5, hR⟩
        rcases hR with ⟨rfl, _⟩ | ⟨b2, F2, rfl, hg2, _⟩
        · have B5 := Lib.hid (below_then2 B4.out hB5)
          clear hB5
          go_wp2
          go_ret
          exact ⟨rfl, B5.out⟩
        · exact absurd hg2 HNG.out
      have HGD := Lib.hid hgd
      have HM := Lib.hid hM
      have HMID := Lib.hid hmid
      have HSIM := Lib.hid hsim
      clear hgd hM hmid hsim
      unfold at0
      go_wp2_with fail
      refine (r1Of_any (H0.out.below (below_then2 B3.out HM.out.below)) c0 room hroom).mono ?_
      rintro e w5 ⟨hB5, hR⟩
      rcases hR with ⟨rfl, hng⟩ | ⟨b2, F2, rfl, _, hR2, hF2⟩
      · exact absurd HGD.out hng
      have hpair : Pair w w5 F b s F2 b2 (rOfEnd room.toNat l0) f := by
        have hb3 := B3.out.size
        have hb4 := HM.out.below.size
        have hm5 := HM.out.later hB5
        refine ⟨⟨hm5.disk, fun i hi => Nat.le_trans hb3 (HM.out.new i hi), below_then2 B3.out hm5.below⟩, hR2, fun i hi => ?_, fun i hi hf => ?_, HSIM.out⟩
        · have := hF2 i hi; omega
        · have h1 := hF2 i hi
          have h2 := HM.out.disk.size i hf
          omega
      have HP := Lib.hid hpair
      have hino : (rOfEnd room.toNat l0).ino.length ≤ 64 := by
        show (inoOf l0 l0.length).length ≤ 64
        rw [inoOf_len (Nat.le_refl _)]
        exact HGD.out.1
      have hrun : Runs s 0 := ⟨HMID.out, by have := HSIM.out.acts; have e : (rOfEnd room.toNat l0).done = 0 := rfl; omega, by have := HSIM.out.len; have e : (rOfEnd room.toNat l0).chs = [] := rfl; rw [e] at this; simp at this; omega⟩
      have HINO := Lib.hid hino
      have HRUN := Lib.hid hrun
      obtain ⟨r0, hr0⟩ : ∃ r0, r0 = rOfEnd room.toNat l0 := ⟨_, rfl⟩
      rw [← hr0] at HP HINO
      clear hB5 hR2 hF2 hpair hino hrun hr0 B3 HM HMID HSIM HGD
      unfold at0
      go_wp2
      go_loopw [10] (fun i wr => ∃ (k : Nat) (s : St) (F : Nat → Prop) (r : RSt) (E : Nat → Prop) (f : Nat → Nat), k ≤ n ∧ i = .int .i64 k ∧ Pair w wr F b s E b2 r f ∧ Runs s k ∧ r.ino.length ≤ 64 + k) (fun i _ => n - (intOf i).toNat)
      case atStart => exact ⟨0, _, _, _, _, _, Nat.zero_le _, rfl, HP.out, HRUN.out, HINO.out⟩
      case round =>
        clear HP HRUN HINO
        obtain ⟨k, s, F, r, E, f, hk, rfl, hP, hR, hino⟩ := hrel
        have HP := Lib.hid hP
        have HR := Lib.hid hR
        have hac := hR.acts
        have hch := hR.chs
        have hmid := hR.mid
        obtain ⟨z1, z2, z3, z4⟩ := hP.sim.sizes hP.mine.disk.wf hmid
        have HMID := Lib.hid hmid
        clear hP hR hmid
        by_cases hlt : k < n
        · have hll : k ≤ 300 := by have := (HG.out).1; have := HN.out; omega
          have hA : A ≠ none := fun e => by have := H.out.nil e; omega
          obtain ⟨ad, rfl⟩ : ∃ ad, A = some ad := by cases A with | none => exact absurd rfl hA | some ad => exact ⟨ad, rfl⟩
          clear hA
          obtain ⟨o, ho⟩ : ∃ o, l[k]? = some o := ⟨_, List.getElem?_eq_getElem (by have := HN.out; omega)⟩
          have hin := H.out.op o (List.mem_of_getElem? ho)
          have hoa : o.a.size ≤ maxLen := hin.a
          have HO := Lib.hid ho
          have HIN := Lib.hid hin
          have hcell : ∀ W, Below w.heap.size w W → W.cell? (ad.add (k * 6)) = some (.int .i64 o.what) ∧ W.cell? ⟨(ad.add (k * 6)).block, (ad.add (k * 6)).off + 1, none⟩ = some (.string o.a) ∧ W.cell? ⟨(ad.add (k * 6)).block, (ad.add (k * 6)).off + 2, none⟩ = some (.slice o.B o.bn o.bc) ∧ W.cell? ⟨(ad.add (k * 6)).block, (ad.add (k * 6)).off + 3, none⟩ = some (.int .i64 o.n) ∧ W.cell? ⟨(ad.add (k * 6)).block, (ad.add (k * 6)).off + 4, none⟩ = some (.int .i64 o.acts) ∧ W.cell? ⟨(ad.add (k * 6)).block, (ad.add (k * 6)).off + 5, none⟩ = some (.slice o.C o.k o.cc) := fun W hb => ⟨(H.out.below hb).head HO.out, (H.out.below hb).field HO.out 0 rfl, (H.out.below hb).field HO.out 1 rfl, (H.out.below hb).field HO.out 2 rfl, (H.out.below hb).field HO.out 3 rfl, (H.out.below hb).field HO.out 4 rfl⟩
          have HCL := Lib.hid hcell
          clear ho hin hcell
          obtain ⟨blk, off, sp⟩ := ad
          obtain ⟨q0, q1, q2, q3, q4, q5⟩ := HCL.out wr HP.out.mine.below
          go_wp2_with fail
          refine (does_any HP.out.mine.disk HMID.out (by omega) (by omega) o (HIN.out.below HP.out.mine.below) (HP.out.mine.awayB HIN.out) (HP.out.mine.awayC HIN.out)).mono ?_
          intro e w6 hL
          obtain ⟨x, s', F', rfl, hst, hM6, hR6, hap⟩ := HP.out.done hL
          obtain ⟨hx, f', hs'⟩ := HP.out.sim.step HP.out.mine.disk.wf HMID.out hst
          have hrun := hst.runs HR.out
          have HX := Lib.hid hx
          have HS' := Lib.hid hs'
          have HM6 := Lib.hid hM6
          have HR6 := Lib.hid hR6
          have HAP := Lib.hid hap
          have HRUN := Lib.hid hrun
          have HNEW := Lib.hid HP.out.new
          have HAB := Lib.hid (HP.out.awayB HIN.out)
          have HAC := Lib.hid (HP.out.awayC HIN.out)
          clear hL hst hM6 hR6 hap hx hs' hrun q0 q1 q2 q3 q4 q5 HP HR
          obtain ⟨q0, q1, q2, q3, q4, q5⟩ := HCL.out w6 HM6.out.below
          go_wp2_with fail
          refine (twin_any HR6.out (by omega) (by omega) (by omega) (by omega) (by omega) o (HIN.out.below HM6.out.below) HAB.out HAC.out).mono ?_
          intro e w7 hL
          obtain ⟨rfl, E', hP7⟩ := Pair.twin HM6.out HNEW.out HAP.out HS'.out hL
          have HP7 := Lib.hid hP7
          obtain ⟨r', hr'⟩ : ∃ r', r' = (rTwin r o).2 := ⟨_, rfl⟩
          obtain ⟨y, hy⟩ : ∃ y, y = (rTwin r o).1 := ⟨_, rfl⟩
          have hino' : r'.ino.length ≤ 64 + (k + 1) := by rw [hr']; have := rTwin_ino r o; omega
          rw [← hr'] at HP7
          rw [← hy] at HX ⊢
          have hxy : x = y := HX.out
          subst hxy
          have HINO := Lib.hid hino'
          clear hL hP7 hr' hy hino' q0 q1 q2 q3 q4 q5 HM6 HR6 HAP HS' HNEW HAB HAC HX
          have q1 := (HCL.out w7 HP7.out.mine.below).2.1
          go_wp2_with fail
          refine (Read_any HP7.out.mine.disk o.a hoa).mono ?_
          rintro e w8 ⟨v8, rfl, hO8, hB8⟩
          obtain ⟨T, t, hT⟩ : ∃ T t, readOf s' o.a.data.toList = (T, t) := ⟨_, _, rfl⟩
          have hrd := HP7.out.sim.read HP7.out.mine.disk.wf HRUN.out.mid o.a.data.toList
          rw [hT] at hO8 hrd ⊢
          simp only at hO8
          have hTl : T.length ≤ 262144 := by
            have h1 : T = (readOf s' o.a.data.toList).1 := by rw [hT]
            rw [h1]
            unfold readOf
            split
            · simp
            · split
              · simp
              · rename_i i hi
                exact (HP7.out.mine.disk.wf.fit i (HP7.out.mine.disk.wf.now_id _ (dget_mem hi))).2
          obtain ⟨A8, c8, hv8⟩ := own_slice hO8
          subst hv8
          have HP8 := Lib.hid (HP7.out.later hB8)
          have HRD := Lib.hid hrd
          have I8 := Lib.hid (BytesIn.own hO8 (by unfold maxLen; omega))
          clear hO8 hB8 hT hrd q1 HP7
          have q1 := (HCL.out w8 HP8.out.mine.below).2.1
          go_wp2_with fail
          refine (r1Read_any w8 E' b2 r' HP8.out.ref o.a).mono ?_
          rintro e w9 ⟨v9, rfl, hO9, hB9⟩
          rw [HRD.out] at hO9 ⊢
          simp only at hO9
          obtain ⟨A9, c9, hv9⟩ := own_slice hO9
          subst hv9
          have HP9 := Lib.hid (HP8.out.later hB9)
          have sx := str_later (c := c8) (I8.out.below hB9)
          have sy := str_later (c := c9) (BytesIn.own hO9 (by unfold maxLen; omega))
          clear hO9 hB9 q1 HP8 I8
          obtain ⟨z1', z2', z3', z4'⟩ := HP9.out.sim.sizes HP9.out.mine.disk.wf HRUN.out.mid
          have hsum := HP9.out.sim.sum HP9.out.mine.disk.wf HRUN.out.mid
          have hdn := HP9.out.sim.acts
          have hoff := HP9.out.sim.off
          have hnm := HP9.out.sim.names HP9.out.mine.disk.wf HRUN.out.mid
          have k5 : w9.cell? ⟨b2, 5, none⟩ = some (.int .i64 s'.acts) := by
            obtain ⟨G, vi, vc, A', c', B', cb, svs, hh, _, _⟩ := HP9.out.ref
            have := hh.blk.cell 5
            rw [hdn] at this
            simpa using this
          have k8 : w9.cell? ⟨b2, 8, none⟩ = some (.bool s'.down) := by
            obtain ⟨G, vi, vc, A', c', B', cb, svs, hh, _, _⟩ := HP9.out.ref
            have := hh.blk.cell 8
            rw [hoff] at this
            simpa using this
          obtain ⟨U, hU⟩ : ∃ U, U = lenSum s'.dat s'.now := ⟨_, rfl⟩
          obtain ⟨ac, hac2⟩ : ∃ ac, ac = s'.acts := ⟨_, rfl⟩
          obtain ⟨dw, hdw⟩ : ∃ dw, dw = s'.down := ⟨_, rfl⟩
          rw [← hac2] at k5
          rw [← hdw] at k8
          rw [← hU] at hsum
          have HU := Lib.hid hU
          have HAC2 := Lib.hid hac2
          have HDW := Lib.hid hdw
          have HSUM := Lib.hid hsum
          have HNM := Lib.hid hnm
          have d1 : (x != x) = false := by simp
          have d2 : (T != T) = false := by simp
          have d3 : (t != t) = false := by simp
          have d4 : (((U : Nat) : Int) != ((U : Nat) : Int)) = false := by simp
          have d5 : (((ac : Nat) : Int) != ((ac : Nat) : Int)) = false := by simp
          have d6 : (dw != dw) = false := by simp
          clear hsum hdn hoff hnm hU hac2 hdw z1 z2 z3 z4
          go_wp2_with fail
          refine wp_region_held_drew (S := fun w' => Below w9.heap.size w9 w' ∧ w'.cell? ⟨b2, 5, none⟩ = some (.int .i64 ac) ∧ w'.cell? ⟨b2, 8, none⟩ = some (.bool dw)) (by kernel_rfl) ?_ (fun hHeld => ?_)
          · exact ⟨(Below.refl _ _).drew, k5, k8⟩
          refine wpAnyH_take (i := 0) (oi := ?oia0) (v := ?va0) ?hia0 (by kernel_rfl) (by kernel_rfl) (by kernel_rfl) ?hQa0 (Or.inl ⟨?hwa0, ?hya0⟩) (by assumption) ?resta0
          case hia0 => (first | (simp only [List.getElem?_toArray, List.getElem?_cons_zero, List.getElem?_cons_succ]; rfl) | rfl)
          case hQa0 => exact fun _ _ _ h => h
          case hwa0 => rfl
          case hya0 => ((intro w hSw; go_simp); first | done | with_reducible rfl)
          try simp only [Act.put, List.setIfInBounds_toArray, List.set_cons_zero, List.set_cons_succ]
          refine wpAnyH_take (i := 1) (oi := ?oia1) (v := ?va1) ?hia1 (by kernel_rfl) (by kernel_rfl) (by kernel_rfl) ?hQa1 (Or.inl ⟨?hwa1, ?hya1⟩) (by assumption) ?resta1
          case hia1 => (first | (simp only [List.getElem?_toArray, List.getElem?_cons_zero, List.getElem?_cons_succ]; rfl) | rfl)
          case hQa1 => exact fun _ _ _ h => h
          case hwa1 => rfl
          case hya1 => ((intro w hSw; go_simp); first | done | with_reducible rfl)
          try simp only [Act.put, List.setIfInBounds_toArray, List.set_cons_zero, List.set_cons_succ]
          refine wpAnyH_take (i := 2) (oi := ?oia2) (v := ?va2) ?hia2 (by kernel_rfl) (by kernel_rfl) (by kernel_rfl) ?hQa2 (Or.inl ⟨?hwa2, ?hya2⟩) (by assumption) ?resta2
          case hia2 => (first | (simp only [List.getElem?_toArray, List.getElem?_cons_zero, List.getElem?_cons_succ]; rfl) | rfl)
          case hQa2 => exact fun _ _ _ h => h
          case hwa2 => rfl
          case hya2 => ((intro w hSw; go_simp); first | done | with_reducible rfl)
          try simp only [Act.put, List.setIfInBounds_toArray, List.set_cons_zero, List.set_cons_succ]
          refine wpAnyH_take (i := 3) (oi := ?oia3) (v := ?va3) ?hia3 (by kernel_rfl) (by kernel_rfl) (by kernel_rfl) ?hQa3 (Or.inl ⟨?hwa3, ?hya3⟩) (by assumption) ?resta3
          case hia3 => (first | (simp only [List.getElem?_toArray, List.getElem?_cons_zero, List.getElem?_cons_succ]; rfl) | rfl)
          case hQa3 => exact fun _ _ _ h => h
          case hwa3 => rfl
          case hya3 => ((intro w hSw; go_simp); first | done | with_reducible rfl)
          try simp only [Act.put, List.setIfInBounds_toArray, List.set_cons_zero, List.set_cons_succ]
          refine wpAnyH_take (i := 4) (oi := ?oia4) (v := ?va4) ?hia4 (by kernel_rfl) (by kernel_rfl) (by kernel_rfl) ?hQa4 (Or.inl ⟨?hwa4, ?hya4⟩) (by assumption) ?resta4
          case hia4 => (first | (simp only [List.getElem?_toArray, List.getElem?_cons_zero, List.getElem?_cons_succ]; rfl) | rfl)
          case hQa4 => exact fun _ _ _ h => h
          case hwa4 => rfl
          case hya4 => ((intro w hSw; go_simp); first | done | with_reducible rfl)
          try simp only [Act.put, List.setIfInBounds_toArray, List.set_cons_zero, List.set_cons_succ]
          refine wpAnyH_take (i := 5) (oi := ?oia5) (v := ?va5) ?hia5 (by kernel_rfl) (by kernel_rfl) (by kernel_rfl) ?hQa5 (Or.inl ⟨?hwa5, ?hya5⟩) (by assumption) ?resta5
          case hia5 => (first | (simp only [List.getElem?_toArray, List.getElem?_cons_zero, List.getElem?_cons_succ]; rfl) | rfl)
          case hQa5 => exact fun _ _ _ h => h
          case hwa5 => rfl
          case hya5 => ((intro w hSw; go_simp); first | done | with_reducible rfl)
          try simp only [Act.put, List.setIfInBounds_toArray, List.set_cons_zero, List.set_cons_succ]
          refine wpAnyH_take (i := 6) (oi := ?oia6) (v := ?va6) ?hia6 (by kernel_rfl) (by kernel_rfl) (by kernel_rfl) ?hQa6 (Or.inl ⟨?hwa6, ?hya6⟩) (by assumption) ?resta6
          case hia6 => (first | (simp only [List.getElem?_toArray, List.getElem?_cons_zero, List.getElem?_cons_succ]; rfl) | rfl)
          case hQa6 => exact fun _ _ _ h => h
          case hwa6 => rfl
          case hya6 => ((intro w hSw; go_simp); first | done | with_reducible rfl)
          try simp only [Act.put, List.setIfInBounds_toArray, List.set_cons_zero, List.set_cons_succ]
          refine wpAnyH_take (i := 7) (oi := ?oia7) (v := ?va7) ?hia7 (by kernel_rfl) (by kernel_rfl) (by kernel_rfl) ?hQa7 (Or.inl ⟨?hwa7, ?hya7⟩) (by assumption) ?resta7
          case hia7 => (first | (simp only [List.getElem?_toArray, List.getElem?_cons_zero, List.getElem?_cons_succ]; rfl) | rfl)
          case hQa7 => exact fun _ _ _ h => h
          case hwa7 => rfl
          case hya7 => ((intro w hSw; go_simp); first | done | with_reducible rfl)
          try simp only [Act.put, List.setIfInBounds_toArray, List.set_cons_zero, List.set_cons_succ]
          refine wpAnyH_take (i := 8) (oi := ?oia8) (v := ?va8) ?hia8 (by kernel_rfl) (by kernel_rfl) (by kernel_rfl) ?hQa8 (Or.inl ⟨?hwa8, ?hya8⟩) (by assumption) ?resta8
          case hia8 => (first | (simp only [List.getElem?_toArray, List.getElem?_cons_zero, List.getElem?_cons_succ]; rfl) | rfl)
          case hQa8 => exact fun _ _ _ h => h
          case hwa8 => rfl
          case hya8 => ((intro w hSw; go_simp); first | done | with_reducible rfl)
          try simp only [Act.put, List.setIfInBounds_toArray, List.set_cons_zero, List.set_cons_succ]
          refine wpAnyH_take (i := 9) (oi := ?oia9) (v := ?va9) ?hia9 (by kernel_rfl) (by kernel_rfl) (by kernel_rfl) ?hQa9 (Or.inl ⟨?hwa9, ?hya9⟩) (by assumption) ?resta9
          case hia9 => (first | (simp only [List.getElem?_toArray, List.getElem?_cons_zero, List.getElem?_cons_succ]; rfl) | rfl)
          case hQa9 => exact fun _ _ _ h => h
          case hwa9 => rfl
          case hya9 => ((intro w hSw; go_simp); first | done | with_reducible rfl)
          try simp only [Act.put, List.setIfInBounds_toArray, List.set_cons_zero, List.set_cons_succ]
          refine wpAnyH_take (i := 10) (oi := ?oia10) (v := ?va10) ?hia10 (by kernel_rfl) (by kernel_rfl) (by kernel_rfl) ?hQa10 (Or.inl ⟨?hwa10, ?hya10⟩) (by assumption) ?resta10
          case hia10 => (first | (simp only [List.getElem?_toArray, List.getElem?_cons_zero, List.getElem?_cons_succ]; rfl) | rfl)
          case hQa10 => exact fun _ _ _ h => h
          case hwa10 => rfl
          case hya10 => ((intro w hSw; go_simp); first | done | with_reducible rfl)
          try simp only [Act.put, List.setIfInBounds_toArray, List.set_cons_zero, List.set_cons_succ]
          refine wpAnyH_take (i := 11) (oi := ?oia11) (v := ?va11) ?hia11 (by kernel_rfl) (by kernel_rfl) (by kernel_rfl) ?hQa11 (Or.inl ⟨?hwa11, ?hya11⟩) (by assumption) ?resta11
          case hia11 => (first | (simp only [List.getElem?_toArray, List.getElem?_cons_zero, List.getElem?_cons_succ]; rfl) | rfl)
          case hQa11 => exact fun _ _ _ h => h
          case hwa11 => rfl
          case hya11 => ((intro w hSw; go_simp); first | done | with_reducible rfl)
          try simp only [Act.put, List.setIfInBounds_toArray, List.set_cons_zero, List.set_cons_succ]
          refine wpAnyH_take (i := 12) (oi := ?oia12) (v := ?va12) ?hia12 (by kernel_rfl) (by kernel_rfl) (by kernel_rfl) ?hQa12 (Or.inl ⟨?hwa12, ?hya12⟩) (by assumption) ?resta12
          case hia12 => (first | (simp only [List.getElem?_toArray, List.getElem?_cons_zero, List.getElem?_cons_succ]; rfl) | rfl)
          case hQa12 => exact fun _ _ _ h => h
          case hwa12 => rfl
          case hya12 => ((intro w hSw; go_simp); first | done | with_reducible rfl)
          try simp only [Act.put, List.setIfInBounds_toArray, List.set_cons_zero, List.set_cons_succ]
          refine wpAnyH_take (i := 13) (oi := ?oia13) (v := ?va13) ?hia13 (by kernel_rfl) (by kernel_rfl) (by kernel_rfl) ?hQa13 (Or.inl ⟨?hwa13, ?hya13⟩) (by assumption) ?resta13
          case hia13 => (first | (simp only [List.getElem?_toArray, List.getElem?_cons_zero, List.getElem?_cons_succ]; rfl) | rfl)
          case hQa13 => exact fun _ _ _ h => h
          case hwa13 => rfl
          case hya13 => ((intro w hSw; go_simp); first | done | with_reducible rfl)
          try simp only [Act.put, List.setIfInBounds_toArray, List.set_cons_zero, List.set_cons_succ]
          refine wpAnyH_take (i := 14) (oi := ?oia14) (v := ?va14) ?hia14 (by kernel_rfl) (by kernel_rfl) (by kernel_rfl) ?hQa14 (Or.inl ⟨?hwa14, ?hya14⟩) (by assumption) ?resta14
          case hia14 => (first | (simp only [List.getElem?_toArray, List.getElem?_cons_zero, List.getElem?_cons_succ]; rfl) | rfl)
          case hQa14 => exact fun _ _ _ h => h
          case hwa14 => rfl
          case hya14 => ((intro w hSw; go_simp); first | done | with_reducible rfl)
          try simp only [Act.put, List.setIfInBounds_toArray, List.set_cons_zero, List.set_cons_succ]
          refine wpAnyH_take (i := 15) (oi := ?oia15) (v := ?va15) ?hia15 (by kernel_rfl) (by kernel_rfl) (by kernel_rfl) ?hQa15 (Or.inl ⟨?hwa15, ?hya15⟩) (by assumption) ?resta15
          case hia15 => (first | (simp only [List.getElem?_toArray, List.getElem?_cons_zero, List.getElem?_cons_succ]; rfl) | rfl)
          case hQa15 => exact fun _ _ _ h => h
          case hwa15 => rfl
          case hya15 => ((intro w hSw; go_simp); first | done | with_reducible rfl)
          try simp only [Act.put, List.setIfInBounds_toArray, List.set_cons_zero, List.set_cons_succ]
          refine wpAnyH_take (i := 16) (oi := ?oia16) (v := ?va16) ?hia16 (by kernel_rfl) (by kernel_rfl) (by kernel_rfl) ?hQa16 (Or.inl ⟨?hwa16, ?hya16⟩) (by assumption) ?resta16
          case hia16 => (first | (simp only [List.getElem?_toArray, List.getElem?_cons_zero, List.getElem?_cons_succ]; rfl) | rfl)
          case hQa16 => exact fun _ _ _ h => h
          case hwa16 => rfl
          case hya16 => ((intro w hSw; go_simp); first | done | with_reducible rfl)
          try simp only [Act.put, List.setIfInBounds_toArray, List.set_cons_zero, List.set_cons_succ]
          refine wpAnyH_take (i := 18) (oi := ?oia18) (v := ?va18) ?hia18 (by kernel_rfl) (by kernel_rfl) (by kernel_rfl) ?hQa18 (Or.inl ⟨?hwa18, ?hya18⟩) (by assumption) ?resta18
          case hia18 => (first | (simp only [List.getElem?_toArray, List.getElem?_cons_zero, List.getElem?_cons_succ]; rfl) | rfl)
          case hQa18 => exact fun _ _ _ h => h
          case hwa18 => rfl
          case hya18 => ((intro w hSw; go_simp); first | done | with_reducible rfl)
          try simp only [Act.put, List.setIfInBounds_toArray, List.set_cons_zero, List.set_cons_succ]
          refine wpAnyH_ready (rs := [17]) (by kernel_rfl) (by simp) ?_
          refine AllReadyH.cons (o := ?o1) ?hc1 ?st1 AllReadyH.nil
          case hc1 => (simp only [List.getElem?_toArray, List.getElem?_cons_zero, List.getElem?_cons_succ]; rfl)
          intro K hK
          go_simp
          refine (used_any (HP9.out.later hHeld.1).mine.disk).mono ?_
          rintro e w10 ⟨rfl, hB⟩
          rw [← HU.out]
          have b10 := below_then2 hHeld.1 hB
          have h10 := Lib.hid b10
          have hS10 : (fun w' => Below w9.heap.size w9 w' ∧ w'.cell? ⟨b2, 5, none⟩ = some (.int .i64 ac) ∧ w'.cell? ⟨b2, 8, none⟩ = some (.bool dw)) w10 := ⟨b10, below_cells b10 k5, below_cells b10 k8⟩
          clear hB b10
          go_wp2_with fail
          refine hK.out _ _ hS10 (fun _ => ?_)
          clear hK K
          try simp only [Act.put, List.setIfInBounds_toArray, List.set_cons_zero, List.set_cons_succ]
          refine wpAnyH_ready (rs := [19]) (by kernel_rfl) (by simp) ?_
          refine AllReadyH.cons (o := ?o2) ?hc2 ?st2 AllReadyH.nil
          case hc2 => (simp only [List.getElem?_toArray, List.getElem?_cons_zero, List.getElem?_cons_succ]; rfl)
          intro K hK
          go_simp
          refine (r1Used_any w10 E' b2 r' (HP9.out.later h10.out).ref).mono ?_
          rintro e w11 ⟨rfl, qd, hw⟩
          rw [HSUM.out]
          have b11 : Below w9.heap.size w9 w11 := by rw [hw]; exact below_drewN h10.out _
          have h11 := Lib.hid b11
          have hS11 : (fun w' => Below w9.heap.size w9 w' ∧ w'.cell? ⟨b2, 5, none⟩ = some (.int .i64 ac) ∧ w'.cell? ⟨b2, 8, none⟩ = some (.bool dw)) w11 := ⟨b11, below_cells b11 k5, below_cells b11 k8⟩
          clear hw b11 hS10
          go_wp2_with fail
          refine hK.out _ _ hS11 (fun _ => ?_)
          clear hK K
          try simp only [Act.put, List.setIfInBounds_toArray, List.set_cons_zero, List.set_cons_succ]
          refine wpAnyH_take (i := 20) (oi := ?oib20) (v := ?vb20) ?hib20 (by kernel_rfl) (by kernel_rfl) (by kernel_rfl) ?hQb20 (Or.inl ⟨?hwb20, ?hyb20⟩) (by assumption) ?restb20
          case hib20 => (first | (simp only [List.getElem?_toArray, List.getElem?_cons_zero, List.getElem?_cons_succ]; rfl) | rfl)
          case hQb20 => exact fun _ _ _ h => h
          case hwb20 => rfl
          case hyb20 => ((intro w hSw; go_simp); first | done | with_reducible rfl)
          try simp only [Act.put, List.setIfInBounds_toArray, List.set_cons_zero, List.set_cons_succ]
          refine wpAnyH_take (i := 21) (oi := ?oib21) (v := ?vb21) ?hib21 (by kernel_rfl) (by kernel_rfl) (by kernel_rfl) ?hQb21 (Or.inl ⟨?hwb21, ?hyb21⟩) (by assumption) ?restb21
          case hib21 => (first | (simp only [List.getElem?_toArray, List.getElem?_cons_zero, List.getElem?_cons_succ]; rfl) | rfl)
          case hQb21 => exact fun _ _ _ h => h
          case hwb21 => rfl
          case hyb21 => ((intro w hSw; go_simp); first | done | with_reducible rfl)
          try simp only [Act.put, List.setIfInBounds_toArray, List.set_cons_zero, List.set_cons_succ]
          refine wpAnyH_take (i := 22) (oi := ?oib22) (v := ?vb22) ?hib22 (by kernel_rfl) (by kernel_rfl) (by kernel_rfl) ?hQb22 (Or.inl ⟨?hwb22, ?hyb22⟩) (by assumption) ?restb22
          case hib22 => (first | (simp only [List.getElem?_toArray, List.getElem?_cons_zero, List.getElem?_cons_succ]; rfl) | rfl)
          case hQb22 => exact fun _ _ _ h => h
          case hwb22 => rfl
          case hyb22 => ((intro w hSw; go_simp); first | done | with_reducible rfl)
          try simp only [Act.put, List.setIfInBounds_toArray, List.set_cons_zero, List.set_cons_succ]
          refine wpAnyH_take (i := 23) (oi := ?oib23) (v := ?vb23) ?hib23 (by kernel_rfl) (by kernel_rfl) (by kernel_rfl) ?hQb23 (Or.inl ⟨?hwb23, ?hyb23⟩) (by assumption) ?restb23
          case hib23 => (first | (simp only [List.getElem?_toArray, List.getElem?_cons_zero, List.getElem?_cons_succ]; rfl) | rfl)
          case hQb23 => exact fun _ _ _ h => h
          case hwb23 => rfl
          case hyb23 => ((intro w hSw; go_simp); first | done | with_reducible rfl)
          try simp only [Act.put, List.setIfInBounds_toArray, List.set_cons_zero, List.set_cons_succ]
          refine wpAnyH_take (i := 25) (oi := ?oib25) (v := ?vb25) ?hib25 (by kernel_rfl) (by kernel_rfl) (by kernel_rfl) ?hQb25 (Or.inl ⟨?hwb25, ?hyb25⟩) (by assumption) ?restb25
          case hib25 => (first | (simp only [List.getElem?_toArray, List.getElem?_cons_zero, List.getElem?_cons_succ]; rfl) | rfl)
          case hQb25 => exact fun _ _ _ h => h
          case hwb25 => rfl
          case hyb25 => ((intro w hSw; go_simp); first | done | with_reducible rfl)
          try simp only [Act.put, List.setIfInBounds_toArray, List.set_cons_zero, List.set_cons_succ]
          refine wpAnyH_take (i := 26) (oi := ?oib26) (v := ?vb26) ?hib26 (by kernel_rfl) (by kernel_rfl) (by kernel_rfl) ?hQb26 (Or.inl ⟨?hwb26, ?hyb26⟩) (by assumption) ?restb26
          case hib26 => (first | (simp only [List.getElem?_toArray, List.getElem?_cons_zero, List.getElem?_cons_succ]; rfl) | rfl)
          case hQb26 => exact fun _ _ _ h => h
          case hwb26 => rfl
          case hyb26 => ((intro w hSw; go_simp); first | done | with_reducible rfl)
          try simp only [Act.put, List.setIfInBounds_toArray, List.set_cons_zero, List.set_cons_succ]
          refine wpAnyH_take (i := 27) (oi := ?oib27) (v := ?vb27) ?hib27 (by kernel_rfl) (by kernel_rfl) (by kernel_rfl) ?hQb27 (Or.inl ⟨?hwb27, ?hyb27⟩) (by assumption) ?restb27
          case hib27 => (first | (simp only [List.getElem?_toArray, List.getElem?_cons_zero, List.getElem?_cons_succ]; rfl) | rfl)
          case hQb27 => exact fun _ _ _ h => h
          case hwb27 => rfl
          case hyb27 => ((intro w hSw; go_simp); first | done | with_reducible rfl)
          try simp only [Act.put, List.setIfInBounds_toArray, List.set_cons_zero, List.set_cons_succ]
          refine wpAnyH_take (i := 28) (oi := ?oib28) (v := ?vb28) ?hib28 (by kernel_rfl) (by kernel_rfl) (by kernel_rfl) ?hQb28 (Or.inl ⟨?hwb28, ?hyb28⟩) (by assumption) ?restb28
          case hib28 => (first | (simp only [List.getElem?_toArray, List.getElem?_cons_zero, List.getElem?_cons_succ]; rfl) | rfl)
          case hQb28 => exact fun _ _ _ h => h
          case hwb28 => rfl
          case hyb28 => ((intro w hSw; go_simp); first | done | with_reducible rfl)
          try simp only [Act.put, List.setIfInBounds_toArray, List.set_cons_zero, List.set_cons_succ]
          refine wpAnyH_ready (rs := [24]) (by kernel_rfl) (by simp) ?_
          refine AllReadyH.cons (o := ?o3) ?hc3 ?st3 AllReadyH.nil
          case hc3 => (simp only [List.getElem?_toArray, List.getElem?_cons_zero, List.getElem?_cons_succ]; rfl)
          intro K hK
          go_simp
          refine (acts_any (HP9.out.later h11.out).mine.disk).mono ?_
          rintro e w12 ⟨rfl, hw⟩
          rw [← hw, ← HAC2.out]
          clear hw w12
          go_wp2_with fail
          refine hK.out _ _ hS11 (fun _ => ?_)
          clear hK K
          try simp only [Act.put, List.setIfInBounds_toArray, List.set_cons_zero, List.set_cons_succ]
          refine wpAnyH_take (i := 29) (oi := ?oic29) (v := ?vc29) ?hic29 (by kernel_rfl) (by kernel_rfl) (by kernel_rfl) ?hQc29 (Or.inl ⟨?hwc29, ?hyc29⟩) (by assumption) ?restc29
          case hic29 => (first | (simp only [List.getElem?_toArray, List.getElem?_cons_zero, List.getElem?_cons_succ]; rfl) | rfl)
          case hQc29 => exact fun _ _ _ h => h
          case hwc29 => rfl
          case hyc29 => ((intro w hSw; go_simp); first | done | with_reducible rfl)
          try simp only [Act.put, List.setIfInBounds_toArray, List.set_cons_zero, List.set_cons_succ]
          refine wpAnyH_take (i := 30) (oi := ?oic30) (v := ?vc30) ?hic30 (by kernel_rfl) (by kernel_rfl) (by kernel_rfl) ?hQc30 (Or.inl ⟨?hwc30, ?hyc30⟩) (by assumption) ?restc30
          case hic30 => (first | (simp only [List.getElem?_toArray, List.getElem?_cons_zero, List.getElem?_cons_succ]; rfl) | rfl)
          case hQc30 => exact fun _ _ _ h => h
          case hwc30 => rfl
          case hyc30 => ((intro w hSw; go_simp); first | done | with_reducible rfl)
          try simp only [Act.put, List.setIfInBounds_toArray, List.set_cons_zero, List.set_cons_succ]
          refine wpAnyH_take (i := 31) (oi := ?oic31) (v := ?vc31) ?hic31 (by kernel_rfl) (by kernel_rfl) (by kernel_rfl) ?hQc31 (Or.inl ⟨?hwc31, ?hyc31⟩) (by assumption) ?restc31
          case hic31 => (first | (simp only [List.getElem?_toArray, List.getElem?_cons_zero, List.getElem?_cons_succ]; rfl) | rfl)
          case hQc31 => exact fun _ _ _ h => h
          case hwc31 => rfl
          case hyc31 => ((intro w hSw; go_simp); first | done | with_reducible rfl)
          try simp only [Act.put, List.setIfInBounds_toArray, List.set_cons_zero, List.set_cons_succ]
          refine wpAnyH_take (i := 32) (oi := ?oic32) (v := ?vc32) ?hic32 (by kernel_rfl) (by kernel_rfl) (by kernel_rfl) ?hQc32 (Or.inl ⟨?hwc32, ?hyc32⟩) (by assumption) ?restc32
          case hic32 => (first | (simp only [List.getElem?_toArray, List.getElem?_cons_zero, List.getElem?_cons_succ]; rfl) | rfl)
          case hQc32 => exact fun _ _ _ h => h
          case hwc32 => rfl
          case hyc32 => ((intro w hSw; go_simp); first | done | with_reducible rfl)
          try simp only [Act.put, List.setIfInBounds_toArray, List.set_cons_zero, List.set_cons_succ]
          refine wpAnyH_take (i := 34) (oi := ?oic34) (v := ?vc34) ?hic34 (by kernel_rfl) (by kernel_rfl) (by kernel_rfl) ?hQc34 (Or.inl ⟨?hwc34, ?hyc34⟩) (by assumption) ?restc34
          case hic34 => (first | (simp only [List.getElem?_toArray, List.getElem?_cons_zero, List.getElem?_cons_succ]; rfl) | rfl)
          case hQc34 => exact fun _ _ _ h => h
          case hwc34 => rfl
          case hyc34 => ((intro w hSw; go_simp); first | done | with_reducible rfl)
          try simp only [Act.put, List.setIfInBounds_toArray, List.set_cons_zero, List.set_cons_succ]
          refine wpAnyH_take (i := 35) (oi := ?oic35) (v := ?vc35) ?hic35 (by kernel_rfl) (by kernel_rfl) (by kernel_rfl) ?hQc35 (Or.inl ⟨?hwc35, ?hyc35⟩) (by assumption) ?restc35
          case hic35 => (first | (simp only [List.getElem?_toArray, List.getElem?_cons_zero, List.getElem?_cons_succ]; rfl) | rfl)
          case hQc35 => exact fun _ _ _ h => h
          case hwc35 => rfl
          case hyc35 => ((intro w hSw; go_simp); first | done | with_reducible rfl)
          try simp only [Act.put, List.setIfInBounds_toArray, List.set_cons_zero, List.set_cons_succ]
          refine wpAnyH_take (i := 36) (oi := ?oic36) (v := ?vc36) ?hic36 (by kernel_rfl) (by kernel_rfl) (by kernel_rfl) ?hQc36 (Or.inl ⟨?hwc36, ?hyc36⟩) (by assumption) ?restc36
          case hic36 => (first | (simp only [List.getElem?_toArray, List.getElem?_cons_zero, List.getElem?_cons_succ]; rfl) | rfl)
          case hQc36 => exact fun _ _ _ h => h
          case hwc36 => rfl
          case hyc36 => ((intro w hSw; go_simp); first | done | with_reducible rfl)
          try simp only [Act.put, List.setIfInBounds_toArray, List.set_cons_zero, List.set_cons_succ]
          refine wpAnyH_take (i := 37) (oi := ?oic37) (v := ?vc37) ?hic37 (by kernel_rfl) (by kernel_rfl) (by kernel_rfl) ?hQc37 (Or.inl ⟨?hwc37, ?hyc37⟩) (by assumption) ?restc37
          case hic37 => (first | (simp only [List.getElem?_toArray, List.getElem?_cons_zero, List.getElem?_cons_succ]; rfl) | rfl)
          case hQc37 => exact fun _ _ _ h => h
          case hwc37 => rfl
          case hyc37 => ((intro w hSw; go_simp); first | done | with_reducible rfl)
          try simp only [Act.put, List.setIfInBounds_toArray, List.set_cons_zero, List.set_cons_succ]
          refine wpAnyH_ready (rs := [33]) (by kernel_rfl) (by simp) ?_
          refine AllReadyH.cons (o := ?o4) ?hc4 ?st4 AllReadyH.nil
          case hc4 => (simp only [List.getElem?_toArray, List.getElem?_cons_zero, List.getElem?_cons_succ]; rfl)
          intro K hK
          go_simp
          refine (down_any (HP9.out.later h11.out).mine.disk).mono ?_
          rintro e w12 ⟨rfl, hw⟩
          rw [← hw, ← HDW.out]
          clear hw w12
          go_wp2_with fail
          refine hK.out _ _ hS11 (fun _ => ?_)
          clear hK K
          try simp only [Act.put, List.setIfInBounds_toArray, List.set_cons_zero, List.set_cons_succ]
          refine wpAnyH_take (i := 38) (oi := ?oid38) (v := ?vd38) ?hid38 (by kernel_rfl) (by kernel_rfl) (by kernel_rfl) ?hQd38 (Or.inl ⟨?hwd38, ?hyd38⟩) (by assumption) ?restd38
          case hid38 => (first | (simp only [List.getElem?_toArray, List.getElem?_cons_zero, List.getElem?_cons_succ]; rfl) | rfl)
          case hQd38 => exact fun _ _ _ h => h
          case hwd38 => rfl
          case hyd38 => ((intro w hSw; go_simp); first | done | with_reducible rfl)
          try simp only [Act.put, List.setIfInBounds_toArray, List.set_cons_zero, List.set_cons_succ]
          refine wpAnyH_take (i := 39) (oi := ?oid39) (v := ?vd39) ?hid39 (by kernel_rfl) (by kernel_rfl) (by kernel_rfl) ?hQd39 (Or.inl ⟨?hwd39, ?hyd39⟩) (by assumption) ?restd39
          case hid39 => (first | (simp only [List.getElem?_toArray, List.getElem?_cons_zero, List.getElem?_cons_succ]; rfl) | rfl)
          case hQd39 => exact fun _ _ _ h => h
          case hwd39 => rfl
          case hyd39 => ((intro w hSw; go_simp); first | done | with_reducible rfl)
          try simp only [Act.put, List.setIfInBounds_toArray, List.set_cons_zero, List.set_cons_succ]
          refine wpAnyH_take (i := 40) (oi := ?oid40) (v := ?vd40) ?hid40 (by kernel_rfl) (by kernel_rfl) (by kernel_rfl) ?hQd40 (Or.inl ⟨?hwd40, ?hyd40⟩) (by assumption) ?restd40
          case hid40 => (first | (simp only [List.getElem?_toArray, List.getElem?_cons_zero, List.getElem?_cons_succ]; rfl) | rfl)
          case hQd40 => exact fun _ _ _ h => h
          case hwd40 => rfl
          case hyd40 => ((intro w hSw; go_simp); first | done | with_reducible rfl)
          try simp only [Act.put, List.setIfInBounds_toArray, List.set_cons_zero, List.set_cons_succ]
          refine wpAnyH_take (i := 41) (oi := ?oid41) (v := ?vd41) ?hid41 (by kernel_rfl) (by kernel_rfl) (by kernel_rfl) ?hQd41 (Or.inl ⟨?hwd41, ?hyd41⟩) (by assumption) ?restd41
          case hid41 => (first | (simp only [List.getElem?_toArray, List.getElem?_cons_zero, List.getElem?_cons_succ]; rfl) | rfl)
          case hQd41 => exact fun _ _ _ h => h
          case hwd41 => rfl
          case hyd41 => ((intro w hSw; go_simp); first | done | with_reducible rfl)
          try simp only [Act.put, List.setIfInBounds_toArray, List.set_cons_zero, List.set_cons_succ]
          refine wpAnyH_take (i := 43) (oi := ?oid43) (v := ?vd43) ?hid43 (by kernel_rfl) (by kernel_rfl) (by kernel_rfl) ?hQd43 (Or.inl ⟨?hwd43, ?hyd43⟩) (by assumption) ?restd43
          case hid43 => (first | (simp only [List.getElem?_toArray, List.getElem?_cons_zero, List.getElem?_cons_succ]; rfl) | rfl)
          case hQd43 => exact fun _ _ _ h => h
          case hwd43 => rfl
          case hyd43 => ((intro w hSw; go_simp); first | done | with_reducible rfl)
          try simp only [Act.put, List.setIfInBounds_toArray, List.set_cons_zero, List.set_cons_succ]
          refine wpAnyH_ready (rs := [42]) (by kernel_rfl) (by simp) ?_
          refine AllReadyH.cons (o := ?o5) ?hc5 ?st5 AllReadyH.nil
          case hc5 => (simp only [List.getElem?_toArray, List.getElem?_cons_zero, List.getElem?_cons_succ]; rfl)
          intro K hK
          go_simp
          refine (Names_any (HP9.out.later h11.out).mine.disk).mono ?_
          rintro e w12 ⟨v12, rfl, hO12, hB⟩
          obtain ⟨A12, c12, hv12⟩ := own_slice hO12
          subst hv12
          have b12 := below_then2 h11.out hB
          have h12 := Lib.hid b12
          have O12 := Lib.hid hO12
          have hS12 : (fun w' => Below w9.heap.size w9 w' ∧ w'.cell? ⟨b2, 5, none⟩ = some (.int .i64 ac) ∧ w'.cell? ⟨b2, 8, none⟩ = some (.bool dw)) w12 := ⟨b12, below_cells b12 k5, below_cells b12 k8⟩
          clear hB b12 hO12 hS11
          go_wp2_with fail
          refine hK.out _ _ hS12 (fun _ => ?_)
          clear hK K
          try simp only [Act.put, List.setIfInBounds_toArray, List.set_cons_zero, List.set_cons_succ]
          refine wpAnyH_ready (rs := [44]) (by kernel_rfl) (by simp) ?_
          refine AllReadyH.cons (o := ?o6) ?hc6 ?st6 AllReadyH.nil
          case hc6 => (simp only [List.getElem?_toArray, List.getElem?_cons_zero, List.getElem?_cons_succ]; rfl)
          intro K hK
          go_simp
          refine (r1Names_any w12 E' b2 r' (HP9.out.later h12.out).ref).mono ?_
          rintro e w13 ⟨v13, rfl, hO13, hB⟩
          obtain ⟨A13, c13, hv13⟩ := own_slice hO13
          subst hv13
          have N12 : NamesIn w13 A12 s'.now.length (s'.now.map (·.1)) := NamesIn.own (base := w11.heap.size) (c := c12) (by
            have h1 := ownsRow_block O12.out fun g hg => hB.block g (O12.out.lt g hg).2
            rw [List.map_map]
            exact h1) (by have := HP9.out.mine.disk.wf.nnow; omega)
          have N13 : NamesIn w13 A13 r'.dir.length (r'.dir.map (·.1)) := NamesIn.own (base := w12.heap.size) (c := c13) (by
            rw [List.map_map]
            exact hO13) (by omega)
          have M12 := Lib.hid N12
          have M13 := Lib.hid N13
          have b13 := below_then2 h12.out hB
          have h13 := Lib.hid b13
          have hS13 : (fun w' => Below w9.heap.size w9 w' ∧ w'.cell? ⟨b2, 5, none⟩ = some (.int .i64 ac) ∧ w'.cell? ⟨b2, 8, none⟩ = some (.bool dw)) w13 := ⟨b13, below_cells b13 k5, below_cells b13 k8⟩
          clear hB b13 hO13 hS12 N12 N13
          go_wp2_with fail
          refine hK.out _ _ hS13 (fun _ => ?_)
          clear hK K
          try simp only [Act.put, List.setIfInBounds_toArray, List.set_cons_zero, List.set_cons_succ]
          refine wpAnyH_ready (rs := [45]) (by kernel_rfl) (by simp) ?_
          refine AllReadyH.cons (o := ?o7) ?hc7 ?st7 AllReadyH.nil
          case hc7 => (simp only [List.getElem?_toArray, List.getElem?_cons_zero, List.getElem?_cons_succ]; rfl)
          intro K hK
          go_simp
          refine (r1SameNames_any w13 A12 A13 _ _ c12 c13 _ _ M12.out M13.out).mono ?_
          rintro e w14 ⟨rfl, qd2, hw⟩
          rw [decide_eq_true HNM.out.symm]
          have b14 : Below w9.heap.size w9 w14 := by rw [hw]; exact below_drewN h13.out _
          have h14 := Lib.hid b14
          have hS14 : (fun w' => Below w9.heap.size w9 w' ∧ w'.cell? ⟨b2, 5, none⟩ = some (.int .i64 ac) ∧ w'.cell? ⟨b2, 8, none⟩ = some (.bool dw)) w14 := ⟨b14, below_cells b14 k5, below_cells b14 k8⟩
          clear hw b14 hS13
          go_wp2_with fail
          refine hK.out _ _ hS14 (fun _ => ?_)
          clear hK K
          try simp only [Act.put, List.setIfInBounds_toArray, List.set_cons_zero, List.set_cons_succ]
          refine wpAnyH_take (i := 46) (oi := ?oie46) (v := ?ve46) ?hie46 (by kernel_rfl) (by kernel_rfl) (by kernel_rfl) ?hQe46 (Or.inl ⟨?hwe46, ?hye46⟩) (by assumption) ?reste46
          case hie46 => (first | (simp only [List.getElem?_toArray, List.getElem?_cons_zero, List.getElem?_cons_succ]; rfl) | rfl)
          case hQe46 => exact fun _ _ _ h => h
          case hwe46 => rfl
          case hye46 => ((intro w hSw; go_simp); first | done | with_reducible rfl)
          try simp only [Act.put, List.setIfInBounds_toArray, List.set_cons_zero, List.set_cons_succ]
          refine wpAnyH_take (i := 47) (oi := ?oie47) (v := ?ve47) ?hie47 (by kernel_rfl) (by kernel_rfl) (by kernel_rfl) ?hQe47 (Or.inl ⟨?hwe47, ?hye47⟩) (by assumption) ?reste47
          case hie47 => (first | (simp only [List.getElem?_toArray, List.getElem?_cons_zero, List.getElem?_cons_succ]; rfl) | rfl)
          case hQe47 => exact fun _ _ _ h => h
          case hwe47 => rfl
          case hye47 => ((intro w hSw; go_simp); first | done | with_reducible rfl)
          try simp only [Act.put, List.setIfInBounds_toArray, List.set_cons_zero, List.set_cons_succ]
          refine wpAnyH_done (by kernel_rfl) ?_ _
          go_wp2
          go_roundw
          case rel => exact ⟨k + 1, s', _, r', _, _, by omega, by go_num, HP9.out.later h14.out, HRUN.out, HINO.out⟩
          case measure => simp [intOf]; omega
        · obtain rfl : k = n := by omega
          have hlz : ¬ ((k : Int) < (k : Int)) := by omega
          have hfl := HP.out.sim.files HP.out.mine.disk.wf HMID.out
          have HFL := Lib.hid hfl
          have hll : (filesOf s).length ≤ 300 := by simp only [filesOf, List.length_map]; have := HP.out.mine.disk.wf.nnow; omega
          clear hfl
          go_wp2_with fail
          refine (Files_any HP.out.mine.disk).mono ?_
          rintro e w6 ⟨v6, rfl, hf6, hB6⟩
          have HP6 := Lib.hid (HP.out.later hB6)
          have HF6 := Lib.hid hf6
          clear hf6 hB6 HP
          go_wp2_with fail
          refine (r1Files_any w6 E b2 r HP6.out.ref).mono ?_
          rintro e w7 ⟨v7, rfl, hf7, hB7⟩
          have HP7 := Lib.hid (HP6.out.later hB7)
          have HF67 := Lib.hid (HF6.out.below hB7)
          rw [HFL.out] at hf7
          have HF7 := Lib.hid hf7
          clear hf7 hB7 HP6 HF6
          go_wp2_with fail
          refine (SameFiles_any HF67.out HF7.out hll).mono ?_
          rintro e w8 ⟨rfl, q, hw⟩
          rw [decide_eq_true rfl]
          have B8 : Hid (Below w.heap.size w w8) := Lib.hid (by rw [hw]; exact below_drewN HP7.out.mine.below _)
          clear hw
          go_wp2
          go_ret
          exact ⟨rfl, B8.out⟩
end Go.Proofs.Ytblpppeppgfbpaa
