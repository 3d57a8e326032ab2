/- The contract of the document's Chances. -/
import Derived.Test.YtjnbilcanfhkjaaOMath
import Derived.Test.YtjnbilcanfhkjaaTWords
namespace Go.Proofs.Ytjnbilcanfhkjaa
open Go.RowKit Go.Maps Go.WideMaps

/-- The offsets of one token's aligns, up to a shift. -/
def offT (t s : Nm) (o : Nat) (k : Nat) : List Int := (alT t s (o : Int) k).map fun p => p.1 + p.2
theorem offT_yes {t s : Nm} {o k : Nat} (h : mayB t s k = true) : offT t s o (k + 1) = offT t s o k ++ [((o + k : Nat) : Int)] := by
  unfold offT
  simp only [alT, h, if_true, List.map_append, List.map_singleton]
  push_cast
  rfl
theorem offT_no {t s : Nm} {o k : Nat} (h : mayB t s k = false) : offT t s o (k + 1) = offT t s o k := by
  unfold offT
  simp [alT, h]
theorem offT_len (t s : Nm) (o k : Nat) : (offT t s o k).length ≤ k := by
  unfold offT
  rw [List.length_map]
  exact alT_len _ _ _ _
theorem chUp_yes {L : List Nm} {s : Nm} {l : List Int} {k I : Nat} {x : Nm} (hi : l[k]? = some (I : Int)) (hx : L[I]? = some x) : chUp L s l (k + 1) = chUp L s l k ++ offT x s (textUp L l k).length x.length := by
  have hlt := (List.getElem?_eq_some_iff.1 hx).1
  have e : tokI L (l.getD k 0) = x := by
    unfold tokI
    rw [List.getD_eq_getElem?_getD, hi, Option.getD_some, if_pos ⟨by omega, by omega⟩, Int.toNat_natCast, List.getD_eq_getElem?_getD, hx]
    rfl
  simp only [chUp, e, offT]
theorem chUp_no {L : List Nm} {s : Nm} {l : List Int} {k : Nat} {i : Int} (hi : l[k]? = some i) (h : ¬ (0 ≤ i ∧ i < L.length)) : chUp L s l (k + 1) = chUp L s l k := by
  have e : tokI L (l.getD k 0) = [] := by
    unfold tokI
    rw [List.getD_eq_getElem?_getD, hi, Option.getD_some, if_neg h]
  simp only [chUp, e, List.length_nil, alT, List.map_nil, List.append_nil]
theorem chUp_len (L : List Nm) (s : Nm) (l : List Int) (k : Nat) : (chUp L s l k).length ≤ (textUp L l k).length := by
  induction k with
  | zero => simp [chUp]
  | succ k ih =>
    have := alT_len (tokI L (l.getD k 0)) s ((textUp L l k).length : Nat) (tokI L (l.getD k 0)).length
    simp only [chUp, textUp, List.length_append, List.length_map]
    omega

set_option maxHeartbeats 8000000 in
set_option maxRecDepth 100000 in
theorem r8Chances_any (w : World) (A B C : Option Addr) (n m p ca cb cp : Nat) (L : List Nm) (s : Nm) (l : List Int) (ha : RowsSee w A n L) (hb : BytesIn w B m s) (hl : IntsIn w C p l) (hcb : m ≤ cb) (hF : (textUp L l p).length ≤ 1048576) :
    Calls Try.prog 17 #[.slice A n ca, .slice B m cb, .slice C p cp] w (IdxOut w (chUp L s l p)) := by
  obtain ⟨i0, hi, hz0, hz1, hz2⟩ := info_parts intInfoI
  have HA := Lib.hid ha
  have HBS := Lib.hid hb
  have HC := Lib.hid hl
  have HLA := Lib.hid ha.len
  have HF := Lib.hid hF
  have hn63 : n ≤ 9223372036854775807 := ha.fit
  have hp63 : p ≤ 9223372036854775807 := hl.1
  clear ha hb hl hF
  go_enter Try.func17, Try.ntmps17
  go_wp2
  go_loopw [7, 8, 9] (fun v o i wr => ∃ k : Nat, k ≤ p ∧ i = .int .i64 k ∧ o = .int .i64 (textUp L l k).length ∧ wr.ownsRow w.heap.size 3 1 v (chUp L s l k).length ((chUp L s l k).map i64V) ∧ Below w.heap.size w wr) (fun _ _ i _ => p - (intOf i).toNat)
  case atStart => exact ⟨0, by omega, rfl, rfl, ⟨rfl, .inl ⟨rfl, rfl⟩⟩, Below.refl _ _⟩
  case round =>
    obtain ⟨k, hk, rfl, rfl, hO, hB⟩ := hrel
    have HO := Lib.hid hO
    have HB := Lib.hid hB
    clear hO hB
    rcases Nat.lt_or_ge k p with hlt | hge
    · have hlt' : (k : Int) < (p : Int) := by omega
      have p0 : (0 : Int) ≤ (k : Int) := by omega
      obtain ⟨pc, i, rfl, hii, ec, hb1, hb2⟩ := (HC.out.below HB.out).at k hlt
      have hw5 : IntKind.i64.wrap ((k : Int) + 1) = (k : Int) + 1 := IntWalk.i64_in _ (by omega)
      have HI := Lib.hid hii
      clear hii
      by_cases hyes : 0 ≤ i ∧ i < (n : Int)
      · obtain ⟨I, rfl⟩ : ∃ I : Nat, i = I := ⟨i.toNat, by omega⟩
        have d1 : decide ((I : Int) < 0) = false := decide_eq_false (by omega)
        have d2 : decide ((n : Int) ≤ (I : Int)) = false := decide_eq_false (by omega)
        have d2n : decide (n ≤ I) = false := decide_eq_false (by omega)
        have q0 : (0 : Int) ≤ (I : Int) := hyes.1
        have q1 : (I : Int) < (n : Int) := hyes.2
        clear hyes
        obtain ⟨x, hx⟩ : ∃ x, L[I]? = some x := ⟨_, List.getElem?_eq_getElem (by rw [HLA.out]; omega)⟩
        have hT := textUp_yes HI.out hx
        have hmo := textUp_mono L l (show k + 1 ≤ p by omega)
        rw [hT, List.length_append] at hmo
        have hcy := chUp_yes (s := s) HI.out hx
        obtain ⟨o, ho⟩ : ∃ o, o = (textUp L l k).length := ⟨_, rfl⟩
        rw [← ho] at hmo hcy ⊢
        have hFF := HF.out
        have hox : o + x.length ≤ 1048576 := by omega
        have HT := Lib.hid (by rw [hT, List.length_append, ← ho] : (textUp L l (k + 1)).length = o + x.length)
        have HCY := Lib.hid hcy
        have HCL := Lib.hid (chUp_len L s l k)
        have HOE := Lib.hid ho
        have HX := Lib.hid hx
        clear hT hmo hFF hcy ho hx
        obtain ⟨P, hP⟩ : ∃ P, P = chUp L s l k := ⟨_, rfl⟩
        rw [← hP] at HO HCY
        have hPl : P.length ≤ o := by rw [hP, HOE.out]; exact HCL.out
        clear hP
        go_wp2
        go_loopw [7, 10] (fun v j wi => ∃ q : Nat, q ≤ x.length ∧ j = .int .i64 q ∧ wi.ownsRow w.heap.size 3 1 v (P ++ offT x s o q).length ((P ++ offT x s o q).map i64V) ∧ Below w.heap.size w wi) (fun _ j _ => x.length - (intOf j).toNat)
        case atStart => exact ⟨0, by omega, rfl, by simp only [offT, alT, List.map_nil, List.append_nil]; exact HO.out, HB.out⟩
        case round =>
          obtain ⟨q, hq, rfl, hO2, hB2⟩ := hrel
          have HO2 := Lib.hid hO2
          have HB2 := Lib.hid hB2
          clear hO2 hB2
          obtain ⟨pa, Ax, cx, rfl, ea, ecx, ex⟩ := (HA.out.below HB2.out).at_ I x HX.out
          have ec2 : wr.cell? (pc.add k) = some (.int .i64 (I : Int)) := by
            obtain ⟨pc', i', e1, e2, e3, -, -⟩ := (HC.out.below HB2.out).at k hlt
            obtain rfl : pc = pc' := by injection e1
            rw [HI.out] at e2
            obtain rfl := Option.some.inj e2
            exact e3
          obtain ⟨Av, cv, hv⟩ := own_slice HO2.out
          subst hv
          rcases Nat.lt_or_ge q x.length with hlt2 | hge2
          · have hlq : (q : Int) < (x.length : Int) := by omega
            have hw6 : IntKind.i64.wrap ((q : Int) + 1) = (q : Int) + 1 := IntWalk.i64_in _ (by omega)
            have hw7 : IntKind.i64.wrap ((o : Int) + (q : Int)) = ((o + q : Nat) : Int) := by rw [IntWalk.i64_in _ (by omega)]; push_cast; rfl
            have HCA := Lib.hid (r8May_any wr Ax B x.length m cx cb x s ex (HBS.out.below HB2.out) ecx hcb (q : Int))
            obtain ⟨M, hM⟩ : ∃ M, M = P ++ offT x s o q := ⟨_, rfl⟩
            have hML : M.length ≤ 1048576 := by
              have h2 := offT_len x s o q
              rw [hM, List.length_append]
              omega
            rw [← hM] at HO2 ⊢
            have HM := Lib.hid hM
            clear ex hM
            cases hb : mayB x s (q : Int) with
            | true =>
              rw [hb] at HCA
              have HNX := Lib.hid (by rw [offT_yes hb, ← List.append_assoc, ← HM.out] : P ++ offT x s o (q + 1) = M ++ [((o + q : Nat) : Int)])
              clear hb
              go_wp2_with fail
              refine HCA.out.mono ?_
              rintro e2 w2 ⟨rfl, q2, hw⟩
              have HO3 := Lib.hid (by rw [hw]; exact HO2.out : w2.ownsRow w.heap.size 3 1 (.slice Av M.length cv) M.length (M.map i64V))
              have HB3 := Lib.hid (by rw [hw]; exact below_drewN HB2.out q2 : Below w.heap.size w w2)
              clear hw
              go_wp2_with (at_builtin; refine wpList_append_src _ rfl (.tmp 53) (.tmp 57) 24 rfl w.heap.size 3 i0 (.int .i64 0) 8 Try.underlying24 hi hz0 hz1 hz2 rfl _ M.length _ rfl (World.ownsRow.alloc HO3.out _) _ 1 1 _ rfl (one_int_src _ 3 ((o + q : Nat) : Int)) (i64V_one [((o + q : Nat) : Int)]) (by unfold maxLen; omega) (by omega) (by have := HB3.out.size; simp; omega) ?_; intro v3 w3 hown hgrow _; have HO4 := Lib.hid hown; have HB4 := Lib.hid ((HB3.out.alloc HB3.out.size _).grown hgrow (by have := HB3.out.size; simp; omega) (fun g hg => (HO3.out.lt g hg).1)); clear hown hgrow)
              go_roundw
              case rel =>
                refine ⟨q + 1, by omega, by go_num, ?_, HB4.out⟩
                rw [HNX.out, List.length_append, List.map_append]
                exact HO4.out
              case measure => simp [intOf]; omega
            | false =>
              rw [hb] at HCA
              have HNX := Lib.hid (by rw [offT_no hb, ← HM.out] : P ++ offT x s o (q + 1) = M)
              clear hb
              go_wp2_with fail
              refine HCA.out.mono ?_
              rintro e2 w2 ⟨rfl, q2, hw⟩
              have HO3 := Lib.hid (by rw [hw]; exact HO2.out : w2.ownsRow w.heap.size 3 1 (.slice Av M.length cv) M.length (M.map i64V))
              have HB3 := Lib.hid (by rw [hw]; exact below_drewN HB2.out q2 : Below w.heap.size w w2)
              clear hw
              go_wp2
              go_roundw
              case rel =>
                refine ⟨q + 1, by omega, by go_num, ?_, HB3.out⟩
                rw [HNX.out]
                exact HO3.out
              case measure => simp [intOf]; omega
          · obtain rfl : q = x.length := by omega
            have hlz : ¬ ((x.length : Int) < (x.length : Int)) := by omega
            have hw7 : IntKind.i64.wrap ((o : Int) + (x.length : Int)) = ((o + x.length : Nat) : Int) := by rw [IntWalk.i64_in _ (by omega)]; push_cast; rfl
            clear ex
            go_wp2
            refine ⟨⟨k + 1, by omega, by go_num, by rw [HT.out]; push_cast; rfl, ?_, HB2.out⟩, by simp [intOf]; omega⟩
            rw [HCY.out]
            exact HO2.out
      · have hT := textUp_no HI.out (by rw [HLA.out]; exact hyes)
        have HT := Lib.hid hT
        have HCY := Lib.hid (chUp_no (s := s) HI.out (by rw [HLA.out]; exact hyes))
        clear hT
        by_cases h0 : 0 ≤ i
        · have d1 : decide (i < 0) = false := decide_eq_false (by omega)
          have d2 : decide ((n : Int) ≤ i) = true := decide_eq_true (by omega)
          clear hyes
          go_wp2
          go_roundw
          case rel =>
            refine ⟨k + 1, by omega, by go_num, by rw [HT.out], ?_, HB.out⟩
            rw [HCY.out]
            exact HO.out
          case measure => simp [intOf]; omega
        · have d1 : decide (i < 0) = true := decide_eq_true (by omega)
          clear hyes
          go_wp2
          go_roundw
          case rel =>
            refine ⟨k + 1, by omega, by go_num, by rw [HT.out], ?_, HB.out⟩
            rw [HCY.out]
            exact HO.out
          case measure => simp [intOf]; omega
    · obtain rfl : k = p := by omega
      have hlz : ¬ ((k : Int) < (k : Int)) := by omega
      go_wp2
      go_ret
      exact ⟨_, rfl, HO.out, HB.out⟩
end Go.Proofs.Ytjnbilcanfhkjaa
