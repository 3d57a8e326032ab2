/- The document's Put. -/
import Derived.Test.YtmcoooepoikgjaaPRef5
import Derived.Test.YtmcoooepoikgjaaPRef6
import Derived.Test.YtmcoooepoikgjaaPRef7
import Derived.Test.YtmcoooepoikgjaaKOwn
import Derived.Lib.MinMax
namespace Go.Proofs.Ytmcoooepoikgjaa
open Go.RowKit Go.Maps Go.WideMaps
set_option linter.unusedSimpArgs false

theorem ValidP.ahead {l : List Pst} (h : ValidP l) {f : Nat} : ∀ {k : Nat}, f + k < l.length → lastD l f < (pAt l (f + k)).1
  | 0, hk => h.up f hk
  | k + 1, hk => by
    have h1 := h.ahead (f := f) (k := k) (by omega)
    have h2 := h.up (f + (k + 1)) hk
    unfold lastD at h2
    rw [if_neg (by omega), show f + (k + 1) - 1 = f + k by omega] at h2
    omega
theorem ValidP.last_lt {l : List Pst} (h : ValidP l) {f t : Nat} (hf : f < t) (ht : t ≤ l.length) : lastD l f < (pAt l (t - 1)).1 := by
  have := h.ahead (f := f) (k := t - 1 - f) (by omega)
  rwa [show f + (t - 1 - f) = t - 1 by omega] at this
theorem ValidP.doc_le {l : List Pst} (h : ValidP l) {t : Nat} (h0 : 0 < t) (ht : t ≤ l.length) : (pAt l (t - 1)).1 ≤ 4294967296 := (h.docs _ (pAt_mem (by omega))).2
theorem fit_of {w : World} {A : Option Addr} {n : Nat} {l : List Pst} (h : PostsSee w A n l) : FitP l := by
  intro x hx s hs
  obtain ⟨i, hi⟩ := List.getElem?_of_mem hx
  cases A with
  | none =>
    have h0 := h.nil rfl
    have h1 := h.len
    have : l = [] := List.eq_nil_of_length_eq_zero (by omega)
    subst this
    cases hx
  | some ad =>
    obtain ⟨_, _, B, c, _, _, h4⟩ := h.at_ ad rfl i x hi
    have := h4.vals s hs
    unfold fits64 at this
    omega
/-- The bytes of any postings; none if they are not valid. -/
def putE (l : List Pst) : List UInt8 := if checkP l = 0 then putP l else []
def PutPOut (w : World) (l : List Pst) (e : Ending) (w' : World) : Prop :=
  ∃ v, e = .returned (.tuple #[v, .int .i64 (checkP l)]) ∧ w'.ownsRow w.heap.size 5 1 v (putE l).length ((putE l).map byteV) ∧ Below w.heap.size w w'

theorem headB_len {l : List Pst} (h : ValidP l) {f t : Nat} (hf : f ≤ l.length) (ht : t ≤ l.length) {b : List UInt8} (hb : b.length < 18446744073709551616) : (headB l f t b).length ≤ 20 := by
  unfold headB
  have h1 := putL_len _ (head_val h ht hf)
  have h2 := putL_len b.length hb
  rw [List.length_append]
  omega

/-- One block more; one group more. -/
theorem block_next {l : List Pst} {i k t : Nat} (hik : i ≤ k) (hk4 : k % 4 = 0) (hkt : k < t) (ht : t = min l.length (k + 4)) :
    cat (linB l) i (k - i) ++ (headB l k t (cat (unitB l) k (t - k)) ++ cat (unitB l) k (t - k)) = cat (linB l) i (t - i) := by
  have h1 := cat_block l (i := k) (k := t - k) hk4 (by omega) (by omega)
  have h2 := cat_add (linB l) i (k - i) (t - k)
  rw [show k - i + (t - k) = t - i by omega, show i + (k - i) = k by omega, h1] at h2
  rw [h2]
  unfold blockB
  rw [← ht]
theorem group_next {l : List Pst} {i t : Nat} (hi : i % 16 = 0) (hit : i < t) (ht : t = min l.length (i + 16)) :
    cat (lin l) 0 i ++ (headB l i t (cat (linB l) i (t - i)) ++ cat (linB l) i (t - i)) = cat (lin l) 0 t := by
  have h1 := cat_group l (i := i) (k := t - i) hi (by omega) (by omega)
  have h2 := cat_add (lin l) 0 i (t - i)
  rw [show i + (t - i) = t by omega, Nat.zero_add, h1] at h2
  rw [h2]
  unfold groupB
  rw [← ht]

set_option maxHeartbeats 8000000 in
set_option maxRecDepth 100000 in
theorem r9Put_any (w : World) (A : Option Addr) (n c : Nat) (l : List Pst) (h : PostsSee w A n l) (hn : n ≤ 9223372036854775807) :
    Calls Try.prog 10 #[.slice A n c] w (PutPOut w l) := by
  obtain ⟨i0, hi, hz0, hz1, hz2⟩ := info_parts byteInfo
  have HP := Lib.hid h
  have HLEN := Lib.hid h.len
  have HCK := Lib.hid (r9Check_any w A n c l h hn)
  have hok := check_ok (fit_of h)
  unfold PutPOut putE
  obtain ⟨R, hR⟩ : ∃ R, R = checkP l := ⟨_, rfl⟩
  rw [← hR] at HCK hok ⊢
  clear h hR
  by_cases h0 : R = 0
  · have hV := hok.1 h0
    rw [if_pos h0]
    subst h0
    have HV := Lib.hid hV
    have hn4 : n ≤ 4096 := by have := hV.few; rw [HLEN.out] at this; exact this
    have hn64 : n < 18446744073709551616 := by omega
    have hw4 : IntKind.u64.wrap (n : Int) = (n : Int) := IntWalk.u64_in _ (by omega)
    have hnl := putL_len n (by omega)
    clear hok hV
    go_enter Try.func10, Try.ntmps10
    go_wp2_with fail
    refine HCK.out.mono ?_
    rintro e w1 ⟨rfl, hb1⟩
    have HB1 := Lib.hid hb1
    clear hb1
    go_wp2_with fail
    refine (r3Put_any _ n hn64).mono ?_
    rintro e w2 ⟨v2, rfl, ho2, hb2⟩
    have HB2 := Lib.hid (below_then HB1.out hb2 HB1.out.size)
    have HO2 := Lib.hid (rowBase_le ho2 HB1.out.size)
    clear ho2 hb2
    go_wp2
    go_loopw [5, 6] (fun v i wr => ∃ I : Nat, I % 16 = 0 ∧ I ≤ n + 15 ∧ i = .int .i64 I ∧ wr.ownsRow w.heap.size 5 1 v (putL n ++ cat (lin l) 0 (min n I)).length ((putL n ++ cat (lin l) 0 (min n I)).map byteV) ∧ Below w.heap.size w wr) (fun _ i _ => n + 16 - (intOf i).toNat)
    case atStart => exact ⟨0, rfl, by omega, rfl, by simpa [cat] using HO2.out, HB2.out⟩
    case round =>
      obtain ⟨I, hI16, hIn, rfl, hO, hB⟩ := hrel
      obtain ⟨wo, hwo⟩ : ∃ z, z = wr := ⟨_, rfl⟩
      subst hwo
      have HO := Lib.hid hO
      have HB := Lib.hid hB
      clear hO hB
      rcases Nat.lt_or_ge I n with hlt | hge
      · have hlt' : (I : Int) < (n : Int) := by omega
        obtain ⟨E, hE⟩ : ∃ E, E = min n (I + 16) := ⟨_, rfl⟩
        have hw5 : IntKind.i64.wrap ((I : Int) + 16) = (I : Int) + 16 := IntWalk.i64_in _ (by omega)
        have hmin : ∀ w ty, (Builtin.min_ #[3, 3] ty #[.int .i64 (n : Int), .int .i64 ((I : Int) + 16)]).run Try.prog w = .ok (.int .i64 (E : Int)) w := fun w ty => by
          rw [Lib.run_min_ints, show min (n : Int) ((I : Int) + 16) = (E : Int) by omega]
        have hEl : E = min l.length (I + 16) := by rw [HLEN.out]; exact hE
        have hEI : I < E ∧ E ≤ n ∧ E ≤ I + 16 := by omega
        have hEmin : min n (I + 16) = E := hE.symm
        rw [Nat.min_eq_right (Nat.le_of_lt hlt)] at HO
        have HGN := Lib.hid (group_next (l := l) hI16 hEI.1 hEl)
        have HEL := Lib.hid hEl
        have HLL := Lib.hid (lins_len HV.out (i := 0) (k := E) (by rw [HLEN.out]; omega))
        have HEM := Lib.hid hEmin
        clear hE hEl hEmin
        have hIl := hEI.1
        have hEn := hEI.2.1
        have hEI16 := hEI.2.2
        clear hEI
        go_wp2
        go_loopw [8, 9] (fun v k wi => ∃ K : Nat, K % 4 = 0 ∧ I ≤ K ∧ K ≤ I + 16 ∧ (K < E ∨ E ≤ K) ∧ k = .int .i64 K ∧ wi.ownsRow wo.heap.size 5 1 v (cat (linB l) I (min E K - I)).length ((cat (linB l) I (min E K - I)).map byteV) ∧ Below wo.heap.size wo wi) (fun _ k _ => n + 16 - (intOf k).toNat)
        case atStart => exact ⟨I, by omega, by omega, by omega, by omega, rfl, by rw [show min E I - I = 0 by omega]; exact ⟨rfl, .inl ⟨rfl, rfl⟩⟩, Below.refl _ _⟩
        case round =>
          obtain ⟨K, hK4, hIK, hK16, hcs, rfl, hO2, hB2⟩ := hrel
          have HO2 := Lib.hid hO2
          have HB2' := Lib.hid hB2
          have HBW := Lib.hid (below_then HB.out hB2 HB.out.size)
          clear hO2 hB2
          obtain ⟨Av, cv, hv⟩ := own_slice HO2.out
          subst hv
          rcases Nat.lt_or_ge K E with hlt2 | hge2
          · have hlt2' : (K : Int) < (E : Int) := by omega
            have hmk : min E K = K := Nat.min_eq_right (Nat.le_of_lt hlt2)
            obtain ⟨T, hT⟩ : ∃ T, T = min E (K + 4) := ⟨_, rfl⟩
            have hw6 : IntKind.i64.wrap ((K : Int) + 4) = (K : Int) + 4 := IntWalk.i64_in _ (by omega)
            have hmin2 : ∀ w ty, (Builtin.min_ #[3, 3] ty #[.int .i64 (E : Int), .int .i64 ((K : Int) + 4)]).run Try.prog w = .ok (.int .i64 (T : Int)) w := fun w ty => by
              rw [Lib.run_min_ints, show min (E : Int) ((K : Int) + 4) = (T : Int) by omega]
            have hTl : T = min l.length (K + 4) := by have := HEL.out; omega
            have hKT : K < T := by omega
            have hTE : T ≤ E := by omega
            have HTm : Hid (min E (K + 4) = T) := Lib.hid hT.symm
            rw [hmk] at HO2
            have HBN := Lib.hid (block_next (l := l) hIK hK4 hKT hTl)
            have hml := linBs_len HV.out (i := I) (k := K - I) (by rw [HLEN.out]; omega)
            obtain ⟨M, hM⟩ : ∃ M, M = cat (linB l) I (K - I) := ⟨_, rfl⟩
            have hMl : M.length ≤ 1440320 := by
              rw [hM]
              have : 90020 * (K - I) ≤ 90020 * 16 := Nat.mul_le_mul_left _ (by omega)
              omega
            have hul := units_len HV.out (i := K) (k := T - K) (by rw [HLEN.out]; omega)
            rw [hmk]
            rw [← hM] at HO2 HBN ⊢
            have HM := Lib.hid hM
            have HBL := Lib.hid (r9block_any wr A n c l (HP.out.below HBW.out) HV.out K T (by omega) (by omega))
            obtain ⟨U, hU⟩ : ∃ U, U = cat (unitB l) K (T - K) := ⟨_, rfl⟩
            have hUl : U.length ≤ 360000 := by
              rw [hU]
              have : 90000 * (T - K) ≤ 90000 * 4 := Nat.mul_le_mul_left _ (by omega)
              omega
            rw [← hU] at HBL HBN
            have hhl := headB_len HV.out (f := K) (t := T) (b := U) (by rw [HLEN.out]; omega) (by rw [HLEN.out]; omega) (by omega)
            have HLT := Lib.hid (HV.out.last_lt hKT (by rw [HLEN.out]; omega))
            have HL1 := Lib.hid (HV.out.last (i := K) (by rw [HLEN.out]; omega)).1
            have HDL := Lib.hid (HV.out.doc_le (t := T) (by omega) (by rw [HLEN.out]; omega))
            clear hT hTl hmk hml hM hul hU
            go_wp2_with fail
            refine HBL.out.mono ?_
            rintro e w3 ⟨v3, rfl, ho3, hb3⟩
            obtain ⟨X3, c3, hv3⟩ := own_slice ho3
            subst hv3
            have HB3 := Lib.hid (below_then HBW.out hb3 HBW.out.size)
            have HV3 := Lib.hid (below_then HB2'.out hb3 HB2'.out.size)
            have HO3 := Lib.hid (ownsRow_block HO2.out (fun g hg => hb3.block g (HO2.out.lt g hg).2))
            have HHD := Lib.hid (r9headed_any w3 A X3 n c U.length c3 l U (HP.out.below HB3.out) (BytesIn.own ho3 (by unfold maxLen; omega)) (by omega) K T (by omega) (by omega) (by omega) HLT.out HL1.out HDL.out)
            clear ho3 hb3
            go_wp2_with fail
            refine HHD.out.mono ?_
            rintro e w4 ⟨v4, rfl, ho4, hb4⟩
            obtain ⟨X4, c4, hv4⟩ := own_slice ho4
            subst hv4
            have HB4 := Lib.hid (below_then HV3.out hb4 HV3.out.size)
            have HO4 := Lib.hid (ownsRow_block HO3.out (fun g hg => hb4.block g (HO3.out.lt g hg).2))
            have HS4 := Lib.hid (src_of_own ho4)
            obtain ⟨Y, hY⟩ : ∃ Y, Y = headB l K T U ++ U := ⟨_, rfl⟩
            rw [← hY] at HS4 HBN
            have hYl : Y.length ≤ 360020 := by rw [hY, List.length_append]; omega
            rw [← hY]
            clear ho4 hb4 hY
            go_wp2_with (at_builtin; refine wpList_append_src _ rfl (.tmp 41) (.tmp 49) 23 rfl wo.heap.size 5 i0 (.int .u8 0) 1 Try.underlying23 hi hz0 hz1 hz2 rfl _ M.length _ rfl HO4.out X4 Y.length c4 _ rfl HS4.out (u8_one Y) (by unfold maxLen; omega) (by omega) HB4.out.size ?_; intro v5 w5 hown hgrow _; rw [← List.map_append] at hown; have HB5 := Lib.hid (HB4.out.grown hgrow HB4.out.size (fun g hg => (HO4.out.lt g hg).1)); have HO5 := Lib.hid hown; clear hown hgrow)
            go_roundw
            case rel =>
              refine ⟨K + 4, by omega, by omega, by omega, by omega, by go_num, ?_, HB5.out⟩
              rw [HTm.out, ← HBN.out, List.length_append]
              exact HO5.out
            case measure => simp [intOf]; omega
          · have hlz : ¬ ((K : Int) < (E : Int)) := by omega
            have hmk : min E K = E := Nat.min_eq_left hge2
            rw [hmk] at HO2 ⊢
            have hml := linBs_len HV.out (i := I) (k := E - I) (by rw [HLEN.out]; omega)
            obtain ⟨Q, hQ⟩ : ∃ Q, Q = cat (linB l) I (E - I) := ⟨_, rfl⟩
            have hQl : Q.length ≤ 1440320 := by
              rw [hQ]
              have : 90020 * (E - I) ≤ 90020 * 16 := Nat.mul_le_mul_left _ (by omega)
              omega
            rw [← hQ] at HO2 HGN ⊢
            have HO2b := Lib.hid (BytesIn.own HO2.out (by unfold maxLen; omega))
            have hhl := headB_len HV.out (f := I) (t := E) (b := Q) (by rw [HLEN.out]; omega) (by rw [HLEN.out]; omega) (by omega)
            have HHD := Lib.hid (r9headed_any wr A Av n c Q.length cv l Q (HP.out.below HBW.out) HO2b.out (by omega) I E (by omega) (by omega) (by omega) (HV.out.last_lt hIl (by rw [HLEN.out]; omega)) (HV.out.last (i := I) (by rw [HLEN.out]; omega)).1 (HV.out.doc_le (t := E) (by omega) (by rw [HLEN.out]; omega)))
            obtain ⟨N, hN⟩ : ∃ N, N = putL n ++ cat (lin l) 0 I := ⟨_, rfl⟩
            have hNl : N.length ≤ 368803860 := by
              have h1 := lins_len HV.out (i := 0) (k := I) (by rw [HLEN.out]; omega)
              have h2 : 90040 * I ≤ 90040 * 4096 := Nat.mul_le_mul_left _ (by omega)
              rw [hN, List.length_append]
              omega
            have hHN : putL n ++ cat (lin l) 0 E = N ++ (headB l I E Q ++ Q) := by rw [hN, List.append_assoc, ← HGN.out]
            rw [← hN] at HO
            have HO3 := Lib.hid (ownsRow_block HO.out (fun g hg => HB2'.out.block g (HO.out.lt g hg).2))
            obtain ⟨Ao, co, hvo⟩ := own_slice HO.out
            subst hvo
            have HHN := Lib.hid hHN
            clear hml hQ hmk hN hHN
            go_wp2_with fail
            refine HHD.out.mono ?_
            rintro e w4 ⟨v4, rfl, ho4, hb4⟩
            obtain ⟨X4, c4, hv4⟩ := own_slice ho4
            subst hv4
            have HB4 := Lib.hid (below_then HBW.out hb4 HBW.out.size)
            have HO4 := Lib.hid (ownsRow_block HO3.out (fun g hg => hb4.block g (HO3.out.lt g hg).2))
            have HS4 := Lib.hid (src_of_own ho4)
            obtain ⟨Y, hY⟩ : ∃ Y, Y = headB l I E Q ++ Q := ⟨_, rfl⟩
            rw [← hY] at HS4 HHN
            have hYl : Y.length ≤ 1440340 := by rw [hY, List.length_append]; omega
            rw [← hY]
            clear ho4 hb4 hY
            go_wp2_with (at_builtin; refine wpList_append_src _ rfl (.tmp 51) (.tmp 56) 23 rfl w.heap.size 5 i0 (.int .u8 0) 1 Try.underlying23 hi hz0 hz1 hz2 rfl _ N.length _ rfl HO4.out X4 Y.length c4 _ rfl HS4.out (u8_one Y) (by unfold maxLen; omega) (by omega) HB4.out.size ?_; intro v5 w5 hown hgrow _; rw [← List.map_append] at hown; have HB5 := Lib.hid (HB4.out.grown hgrow HB4.out.size (fun g hg => (HO4.out.lt g hg).1)); have HO5 := Lib.hid hown; clear hown hgrow)
            refine ⟨⟨I + 16, by omega, by omega, by go_num, ?_, HB5.out⟩, by simp [intOf]; omega⟩
            rw [HEM.out, HHN.out, List.length_append]
            exact HO5.out
      · have hm : min n I = n := Nat.min_eq_left hge
        have hlz : ¬ ((I : Int) < (n : Int)) := by omega
        rw [hm] at HO
        clear hm
        go_wp2
        go_ret2
        refine ⟨_, rfl, ?_, HB.out⟩
        unfold putP
        rw [HLEN.out]
        exact HO.out
  · rw [if_neg h0]
    have d0 : (R == 0) = false := by simpa using h0
    have d1 : (R != 0) = true := by simpa using h0
    clear hok
    go_enter Try.func10, Try.ntmps10
    go_wp2_with fail
    refine HCK.out.mono ?_
    rintro e w1 ⟨rfl, hb1⟩
    go_wp2
    go_ret2
    exact ⟨_, rfl, ⟨rfl, .inl ⟨rfl, rfl⟩⟩, hb1⟩
end Go.Proofs.Ytmcoooepoikgjaa
