/- The contract of the document's Encode. -/
import Derived.Test.YtimbimnbaoaboaaERef4
import Derived.Test.YtimbimnbaoaboaaERef3
namespace Go.Proofs.Ytimbimnbaoaboaa
open Go.RowKit Go.Maps Go.WideMaps
set_option linter.unusedSimpArgs false

set_option maxHeartbeats 8000000 in
set_option maxRecDepth 100000 in
theorem r6Encode_any (w : World) (A B C : Option Addr) (n m ca cb p cc : Nat) (V : Voc) (s : Nm) (hV : VocSee w A B n m ca cb V) (hO : VOk V) (hs : BytesIn w C p s) :
    Calls Try.prog 13 #[.agg #[.slice A n ca, .slice B m cb], .slice C p cc] w (ListOut w (encR V.mer s) (encE s)) := by
  have hsl : s.length = p := by have := hs.2.1.len; simpa using this
  have hp63 : p ≤ 9223372036854775807 := hs.1
  have HV := Lib.hid hV
  have HS := Lib.hid hs
  have HO := Lib.hid hO
  have HSL := Lib.hid hsl
  have HTL := Lib.hid hV.tok.len
  have HML := Lib.hid hV.mer.len
  have hn512 : n ≤ 512 := by have := hO.tl; have := hV.tok.len; omega
  have hm512 : m ≤ 512 := by have := hO.ml; have := hV.mer.len; omega
  have hn256 : 256 ≤ n := by have := hO.long; have := hV.tok.len; omega
  obtain ⟨W, hW⟩ : ∃ W, W = w.alloc (.cells #[.slice A n ca, .slice B m cb] 29) := ⟨_, rfl⟩
  have hb0 : Below w.heap.size w W := by rw [hW]; exact (Below.refl _ w).alloc (Nat.le_refl _) _
  have hbl : Blk W w.heap.size 29 #[.slice A n ca, .slice B m cb] := by rw [hW]; exact Blk.new _ _ _
  have HW := Lib.hid hW
  have HB0 := Lib.hid hb0
  have HBL := Lib.hid hbl
  obtain ⟨R, hR⟩ : ∃ R, R = encE s := ⟨_, rfl⟩
  obtain ⟨T, hT⟩ : ∃ T, T = encR V.mer s := ⟨_, rfl⟩
  rw [← hR, ← hT]
  have HR := Lib.hid hR
  have HT := Lib.hid hT
  obtain ⟨i0, hi, hz0, hz1, hz2⟩ := info_parts intInfo1
  clear hV hO hs hsl hW hb0 hbl hR hT
  go_enter Try.func13, Try.ntmps13
  rcases Nat.lt_or_ge 4096 p with hbig | hsm
  · have d0 : (4096 : Int) < (p : Int) := by omega
    have hT0 : T = [] := by rw [HT.out]; unfold encR; rw [if_pos (by rw [HSL.out]; exact hbig)]
    have hR0 : R = 2 := by rw [HR.out]; unfold encE; rw [if_pos (by rw [HSL.out]; exact hbig)]
    go_wp2_with fail
    rw [← HW.out]
    go_ret2
    rw [hT0, hR0]
    exact ⟨_, rfl, World.ownsRow_nil _ _ _ _, HB0.out⟩
  have d0 : ¬ (4096 : Int) < (p : Int) := by omega
  have hR0 : R = 0 := by rw [HR.out]; exact encE_is (by rw [HSL.out]; exact hsm)
  have hT0 : T = encL V.mer s := by rw [HT.out]; exact encR_is (by rw [HSL.out]; exact hsm)
  have HR0 := Lib.hid hR0
  have HT0 := Lib.hid hT0
  clear hR0 hT0
  go_wp2_with fail
  rw [← HW.out]
  go_loopw [6, 7] (fun v i wr => ∃ j : Nat, j ≤ p ∧ i = .int .i64 (j : Nat) ∧ wr.ownsRow W.heap.size 3 1 v j ((bytesI (s.take j)).map i64V) ∧ Below W.heap.size W wr) (fun _ i _ => p - (intOf i).toNat)
  case atStart => exact ⟨0, by omega, rfl, World.ownsRow_nil _ _ _ _, Below.refl _ _⟩
  case round =>
    obtain ⟨j, hj, rfl, hv, hbr⟩ := hrel
    obtain ⟨A1, q1, rfl⟩ := own_slice hv
    rcases Nat.lt_or_ge j p with hlt | hge
    · have c1 : (j : Int) < (p : Int) := by omega
      have c2 : (0 : Int) ≤ (j : Int) := by omega
      obtain ⟨ads, x, rfl, hx, lx⟩ := (HS.out.below HB0.out).at j hlt
      have HX := Lib.hid hx
      have LX := Lib.hid lx
      have HOWN := Lib.hid hv
      have HB := Lib.hid hbr
      have hx256 := x.toNat_lt
      clear hx lx hv hbr
      go_wp2_with fail
      go_loopw [6, 8] (fun v i wr => ∃ k : Nat, k ≤ n ∧ i = .int .i64 (k : Nat) ∧ wr.ownsRow W.heap.size 3 1 v (byteAt s j k).length ((byteAt s j k).map i64V) ∧ Below W.heap.size W wr) (fun _ i _ => n - (intOf i).toNat)
      case atStart => exact ⟨0, by omega, rfl, by rw [byteAt_zero, bytesI_len, List.length_take, Nat.min_eq_left (by rw [HSL.out]; exact hj)]; exact HOWN.out, HB.out⟩
      case round =>
        obtain ⟨k, hk, rfl, hv, hbr⟩ := hrel
        obtain ⟨A2, q2, rfl⟩ := own_slice hv
        have HV2 := Lib.hid hv
        have HBR := Lib.hid hbr
        have b0 : wr.cell? ⟨w.heap.size, 0, none⟩ = some (.slice A n ca) := (vocab_cellsO _ (HBL.out.below hbr HBL.out.lt)).1
        have hl2 := byteAt_len s j k
        clear hv hbr
        rcases Nat.lt_or_ge k n with hlk | hgk
        · have c3 : (k : Int) < (n : Int) := by omega
          have c4 : (0 : Int) ≤ (k : Int) := by omega
          have hy : V.tok[k]? = some (V.tok[k]'(by rw [HTL.out]; exact hlk)) := List.getElem?_eq_getElem _
          obtain ⟨y, hye⟩ : ∃ y, y = V.tok[k]'(by rw [HTL.out]; exact hlk) := ⟨_, rfl⟩
          rw [← hye] at hy
          obtain ⟨adt, A', c', e1, tc, _, tb⟩ := (HV.out.tok.below (below_then HB0.out HBR.out HB0.out.size)).at_ k y hy
          subst e1
          have lxq : ∀ r, (wr.drewN r).cell? (ads.add j) = some (.int .u8 (x.toNat : Int)) := fun _ => below_cells HBR.out LX.out
          have b0q : ∀ r, (wr.drewN r).cell? ⟨w.heap.size, 0, none⟩ = some (.slice (some adt) n ca) := fun _ => b0
          have tcq : ∀ r, (wr.drewN r).cell? (adt.add k) = some (.slice A' y.length c') := fun _ => tc
          by_cases h1 : y.length = 1
          · obtain ⟨hk256, hyy⟩ := one_single HO.out hy h1
            obtain ⟨adb, z, e1, hz, zc⟩ := tb.at 0 (by omega)
            subst e1
            have hzk : z.toNat = k := by
              rw [hyy] at hz
              simp at hz
              rw [← hz]
              exact UInt8.toNat_ofNat_of_lt' (by show _ < 256; omega)
            rw [hzk] at zc
            have zc0 : wr.cell? adb = some (.int .u8 (k : Int)) := by simpa [Addr.add] using zc
            have zcq : ∀ r, (wr.drewN r).cell? adb = some (.int .u8 (k : Int)) := fun _ => zc0
            have zcq' : ∀ r, (wr.drewN r).cell? (adb.add 0) = some (.int .u8 (k : Int)) := fun _ => zc
            have f1 : ((y.length : Int) == 1) = true := by rw [h1]; rfl
            have f0 : (0 : Int) < (y.length : Int) := by omega
            have f0' : 0 < y.length := by omega
            by_cases hxk : x.toNat = k
            · have f2 : ((k : Int) == (x.toNat : Int)) = true := by simp; omega
              have HXY := Lib.hid (byteAt_yes (s := s) (i := j) (k := k) HX.out hxk)
              clear hy hye tb tc h1 hk256 hyy hz hzk zc zc0 hxk
              go_wp2_with fail
              clear b0
              go_quiet (fail)
              obtain ⟨u, hu⟩ : ∃ u, u = wr.drewN nq := ⟨_, rfl⟩
              rw [← hu]
              have HV3 : Hid (u.ownsRow W.heap.size 3 1 (.slice A2 (byteAt s j k).length q2) (byteAt s j k).length ((byteAt s j k).map i64V)) := Lib.hid (by rw [hu]; exact HV2.out)
              have HB3 : Hid (Below W.heap.size W u) := Lib.hid (by rw [hu]; exact below_drewN HBR.out _)
              clear hu lxq b0q tcq zcq zcq'
              go_wp2_with (at_builtin; refine wpList_append_own_at _ rfl _ _ 24 rfl W.heap.size 3 i0 (.int .i64 0) 1 8 Try.underlying24 hi hz0 hz1 hz2 rfl (by decide) _ (byteAt s j k).length _ rfl (HV3.out.alloc _) ⟨u.heap.size, 0, none⟩ 1 1 [.int .i64 (k : Int)] rfl rfl one_cell_at (by simp [Value.oneCell']) (by unfold maxLen; omega) (by omega) (by simp; have := HB3.out.size; omega) ?_; intro v' w2 hown' hg2 hnil hloc; obtain ⟨A3, q3, hv⟩ := own_slice hown'; rw [hv]; clear hnil hloc; have HVV := Lib.hid hv; clear hv; have HOWN2 := Lib.hid hown'; have hb2 : Below W.heap.size u w2 := (((Below.refl _ u).alloc HB3.out.size _).grown hg2 (by simp; have := HB3.out.size; omega) (fun k e => (HV3.out.lt k e).1)); have HB2 := Lib.hid (HB3.out.trans hb2); clear hown' hg2 hb2)
              have hlen : (byteAt s j (k + 1)).length = (byteAt s j k).length + 1 := by rw [HXY.out, List.length_append]; rfl
              go_roundw
              case rel =>
                refine ⟨k + 1, by omega, by go_num, ?_, HB2.out⟩
                rw [hlen, HXY.out, List.map_append, ← HVV.out]
                exact HOWN2.out
              case measure => simp [intOf]; omega
            · have f2 : ((k : Int) == (x.toNat : Int)) = false := by simp; omega
              have HXY := Lib.hid (byteAt_no (s := s) (i := j) (k := k) HX.out hxk)
              clear hy hye tb tc h1 hk256 hyy hz hzk zc zc0 hxk
              go_wp2_with fail
              clear b0
              go_quiet (fail)
              go_wp2
              exact ⟨⟨k + 1, by omega, by go_num, by rw [HXY.out]; exact HV2.out, below_drewN HBR.out _⟩, by simp [intOf]; omega⟩
          · have f1 : ((y.length : Int) == 1) = false := by simp; omega
            have hxk : x.toNat ≠ k := fun e => by
              have h2 := HO.out.single k (by omega)
              rw [hy] at h2
              cases h2
              exact h1 rfl
            have HXY := Lib.hid (byteAt_no (s := s) (i := j) (k := k) HX.out hxk)
            clear hy hye tb tc h1 hxk
            go_wp2_with fail
            clear b0
            go_quiet (fail)
            go_wp2
            exact ⟨⟨k + 1, by omega, by go_num, by rw [HXY.out]; exact HV2.out, below_drewN HBR.out _⟩, by simp [intOf]; omega⟩
        · obtain rfl : k = n := by omega
          have c3 : ¬ (k : Int) < (k : Int) := by omega
          have hen := byteAt_end HX.out hn256
          go_wp2_with fail
          go_roundw
          case rel =>
            refine ⟨j + 1, by omega, by go_num, ?_, HBR.out⟩
            have h := HV2.out
            rw [hen, bytesI_len, List.length_take, Nat.min_eq_left (by rw [HSL.out]; omega)] at h
            rw [hen, bytesI_len, List.length_take, Nat.min_eq_left (by rw [HSL.out]; omega)]
            exact h
          case measure => simp [intOf]; omega
    · obtain rfl : j = p := by omega
      have c1 : ¬ (j : Int) < (j : Int) := by omega
      have htk : s.take j = s := by rw [← HSL.out, List.take_length]
      rw [htk] at hv
      have HV2 := Lib.hid hv
      have HBR := Lib.hid hbr
      clear hv hbr htk
      have hbn : (bytesI s).length = j := by rw [bytesI_len]; exact HSL.out
      go_wp2_with fail
      go_loopw [6] (fun v wr => ∃ l : List Int, wr.ownsRow W.heap.size 3 1 v l.length (l.map i64V) ∧ encRun V.mer l.length l = T ∧ l.length ≤ 4096 ∧ Below W.heap.size W wr) (fun v _ => lenOf v)
      case atStart => exact ⟨bytesI s, by rw [hbn]; exact HV2.out, by rw [HT0.out, bytesI_len]; rfl, by rw [hbn]; exact hsm, HBR.out⟩
      case round =>
        obtain ⟨l, hv, hrun, hlen, hbr⟩ := hrel
        obtain ⟨A4, q4, rfl, hcap⟩ := own_cap hv
        obtain ⟨N, hN⟩ : ∃ N, l.length = N := ⟨_, rfl⟩
        rw [hN] at hv hrun hlen hcap ⊢
        have HVL := Lib.hid hv
        have HRUN := Lib.hid hrun
        have HBR4 := Lib.hid hbr
        have HNN := Lib.hid hN
        obtain ⟨_, b1⟩ := vocab_cellsO _ (HBL.out.below hbr HBL.out.lt)
        have HB1 := Lib.hid b1
        clear hv hrun hbr hN
        go_wp2_with fail
        clear b1
        go_loopw [9, 10, 11] (fun be t i w2 => ∃ j q : Nat, i = .int .i64 (j : Nat) ∧ j ≤ N - 1 ∧ be = .int .i64 (bk V.mer l j : Nat) ∧ t = .int .i64 (ba V.mer l j) ∧ w2 = wr.drewN q) (fun _ _ i _ => N - (intOf i).toNat)
        case atStart => exact ⟨0, 0, rfl, by omega, by rw [← HML.out]; rfl, rfl, rfl⟩
        case round =>
          obtain ⟨j, q, rfl, hj, rfl, rfl, rfl⟩ := hrel
          rcases Nat.lt_or_ge (j + 1) N with hlt | hge
          · have c1 : (j : Int) + 1 < (N : Int) := by omega
            have hbm := bk_le V.mer l j
            rw [HML.out] at hbm
            go_wp2_with fail
            go_loopw [9, 10, 12] (fun be t i w2 => ∃ (k b q : Nat) (tt : Int), i = .int .i64 (k : Nat) ∧ be = .int .i64 (b : Nat) ∧ t = .int .i64 tt ∧ w2 = wr.drewN q ∧ k ≤ m ∧ ((b = bk V.mer l j ∧ tt = ba V.mer l j ∧ k ≤ b ∧ ∀ (y : Nat) (x : Mg) (a a2 : Int), y < k → V.mer[y]? = some x → l[j]? = some a → l[j + 1]? = some a2 → ¬ (x.a = a ∧ x.b = a2)) ∨ (pairRk V.mer l j = some b ∧ b < bk V.mer l j ∧ tt = (j : Int) ∧ k = b + 1))) (fun _ _ i _ => m + 1 - (intOf i).toNat)
            case atStart => exact ⟨0, _, q, _, rfl, rfl, rfl, rfl, Nat.zero_le _, .inl ⟨rfl, rfl, Nat.zero_le _, fun y x a a2 hy => by omega⟩⟩
            case round =>
              obtain ⟨k, b, q', tt, rfl, rfl, rfl, rfl, hkm, hinv⟩ := hrel
              rcases Nat.lt_or_ge k b with hlk | hgk
              · obtain ⟨hb, ht, hkb, hno⟩ : b = bk V.mer l j ∧ tt = ba V.mer l j ∧ k ≤ b ∧ ∀ (y : Nat) (x : Mg) (a a2 : Int), y < k → V.mer[y]? = some x → l[j]? = some a → l[j + 1]? = some a2 → ¬ (x.a = a ∧ x.b = a2) := by
                  rcases hinv with h | h
                  · exact h
                  · omega
                have c2 : (k : Int) < (b : Int) := by omega
                have c3 : (0 : Int) ≤ (k : Int) := by omega
                have c4 : (0 : Int) ≤ (j : Int) := by omega
                have c5 : (j : Int) < (N : Int) := by omega
                have c6 : (0 : Int) ≤ (j : Int) + 1 := by omega
                have hkM : k < V.mer.length := by rw [HML.out]; omega
                have c7 : (k : Int) < (m : Int) := by have := HML.out; omega
                have hx : V.mer[k]? = some (V.mer[k]'hkM) := List.getElem?_eq_getElem _
                obtain ⟨x, hxe⟩ : ∃ x, x = V.mer[k]'hkM := ⟨_, rfl⟩
                rw [← hxe] at hx
                obtain ⟨am, e1, xa, xb, -⟩ := (HV.out.mer.below (below_then HB0.out HBR4.out HB0.out.size)).at_ k x hx
                subst e1
                have ha : l[j]? = some (l[j]'(by rw [HNN.out]; omega)) := List.getElem?_eq_getElem _
                obtain ⟨a, hae⟩ : ∃ a, a = l[j]'(by rw [HNN.out]; omega) := ⟨_, rfl⟩
                rw [← hae] at ha
                have ha2 : l[j + 1]? = some (l[j + 1]'(by rw [HNN.out]; omega)) := List.getElem?_eq_getElem _
                obtain ⟨a2, hae2⟩ : ∃ a, a = l[j + 1]'(by rw [HNN.out]; omega) := ⟨_, rfl⟩
                rw [← hae2] at ha2
                have hown := HVL.out
                rw [← HNN.out] at hown
                obtain ⟨ad, cx, e1, la, -⟩ := own_int_at hown ha
                obtain ⟨ad', cx', e2, lb, -⟩ := own_int_at hown ha2
                simp only [Value.slice.injEq, true_and] at e1 e2
                obtain ⟨rfl, -⟩ := e1
                obtain ⟨e3, -⟩ := e2
                cases e3
                have lb2 : wr.cell? ⟨(ad.add j).block, (ad.add j).off + 1, none⟩ = some (.int .i64 a2) := by rw [← add_pos' ad j 1 (by omega)]; exact lb
                have lb3 : wr.cell? ⟨ad.block, ad.off + (j + 1), none⟩ = some (.int .i64 a2) := by simpa [Addr.add] using lb
                have laq : ∀ r, (wr.drewN r).cell? (ad.add j) = some (.int .i64 a) := fun _ => la
                have lbq : ∀ r, (wr.drewN r).cell? (ad.add (j + 1)) = some (.int .i64 a2) := fun _ => lb
                have lbq2 : ∀ r, (wr.drewN r).cell? ⟨(ad.add j).block, (ad.add j).off + 1, none⟩ = some (.int .i64 a2) := fun _ => lb2
                have lbq3 : ∀ r, (wr.drewN r).cell? ⟨ad.block, ad.off + (j + 1), none⟩ = some (.int .i64 a2) := fun _ => lb3
                have xaq : ∀ r, (wr.drewN r).cell? (am.add (k * 3)) = some (.int .i64 x.a) := fun _ => xa
                have xbq : ∀ r, (wr.drewN r).cell? ⟨(am.add (k * 3)).block, (am.add (k * 3)).off + 1, none⟩ = some (.int .i64 x.b) := fun _ => xb
                have m1q : ∀ r, (wr.drewN r).cell? ⟨w.heap.size, 1, none⟩ = some (.slice (some am) m cb) := fun _ => HB1.out
                have HNO := Lib.hid hno
                have HX := Lib.hid hx
                have HA := Lib.hid ha
                have HA2 := Lib.hid ha2
                have HBK := Lib.hid hb
                have HTT := Lib.hid ht
                clear hinv hx hxe ha hae ha2 hae2 hown la lb lb2 lb3 xa xb hno hb ht
                by_cases e1 : x.a = a
                · have f1 : (x.a == a) = true := by simpa using e1
                  by_cases e2 : x.b = a2
                  · have f2 : (x.b == a2) = true := by simpa using e2
                    have HP : Hid (pairRk V.mer l j = some k) := Lib.hid (by
                      rw [pairRk_at HA.out HA2.out]
                      exact rkOf_first HX.out ⟨e1, e2⟩ (fun y z hy hz => HNO.out y z a a2 hy hz HA.out HA2.out))
                    clear e1 e2
                    go_wp2_with fail
                    have cx : (j : Int) + 1 < (N : Int) := by omega
                    have cn : ((j : Int) + 1).toNat = j + 1 := by omega
                    have cw : IntKind.i64.wrap ((j : Int) + 1) = (j : Int) + 1 := by rw [IntKind.wrap_i64]; omega
                    go_quiet (fail)
                    clear cw cn cx
                    go_wp2
                    exact ⟨⟨k + 1, k, _, _, by go_num, rfl, rfl, rfl, by omega, .inr ⟨HP.out, by rw [← HBK.out]; exact hlk, rfl, rfl⟩⟩, by simp [intOf]; omega⟩
                  · have f2 : (x.b == a2) = false := by simpa using e2
                    have HNN2 : Hid (∀ (y : Nat) (z : Mg) (a a2 : Int), y < k + 1 → V.mer[y]? = some z → l[j]? = some a → l[j + 1]? = some a2 → ¬ (z.a = a ∧ z.b = a2)) := Lib.hid (fun y z a a2 hy hz h1 h2 => by
                      rcases Nat.lt_or_ge y k with h | h
                      · exact HNO.out y z a a2 h hz h1 h2
                      · obtain rfl : y = k := by omega
                        rw [HX.out] at hz
                        rw [HA.out] at h1
                        rw [HA2.out] at h2
                        cases hz
                        cases h1
                        cases h2
                        exact fun e => e2 e.2)
                    clear e1 e2
                    go_wp2_with fail
                    have cx : (j : Int) + 1 < (N : Int) := by omega
                    have cn : ((j : Int) + 1).toNat = j + 1 := by omega
                    have cw : IntKind.i64.wrap ((j : Int) + 1) = (j : Int) + 1 := by rw [IntKind.wrap_i64]; omega
                    go_quiet (fail)
                    clear cw cn cx
                    go_wp2
                    exact ⟨⟨k + 1, b, _, _, by go_num, rfl, rfl, rfl, by omega, .inl ⟨HBK.out, HTT.out, by omega, HNN2.out⟩⟩, by simp [intOf]; omega⟩
                · have f1 : (x.a == a) = false := by simpa using e1
                  have HNN2 : Hid (∀ (y : Nat) (z : Mg) (a a2 : Int), y < k + 1 → V.mer[y]? = some z → l[j]? = some a → l[j + 1]? = some a2 → ¬ (z.a = a ∧ z.b = a2)) := Lib.hid (fun y z a a2 hy hz h1 h2 => by
                    rcases Nat.lt_or_ge y k with h | h
                    · exact HNO.out y z a a2 h hz h1 h2
                    · obtain rfl : y = k := by omega
                      rw [HX.out] at hz
                      rw [HA.out] at h1
                      cases hz
                      cases h1
                      exact fun e => e1 e.1)
                  clear e1
                  go_wp2_with fail
                  go_quiet (fail)
                  go_wp2
                  exact ⟨⟨k + 1, b, _, _, by go_num, rfl, rfl, rfl, by omega, .inl ⟨HBK.out, HTT.out, by omega, HNN2.out⟩⟩, by simp [intOf]; omega⟩
              · have c2 : ¬ (k : Int) < (b : Int) := by omega
                have hend : b = bk V.mer l (j + 1) ∧ tt = ba V.mer l (j + 1) := by
                  rcases hinv with ⟨hb, ht, hkb, hno⟩ | ⟨h1, h2, h3, h4⟩
                  · have hk : k = b := by omega
                    have h := bk_no (M := V.mer) (l := l) (i := j) (fun r hr hrb => by
                      obtain ⟨a, a2, h1, h2, h3⟩ := pairRk_some hr
                      obtain ⟨_, x, h4, h5, h6⟩ := rkOf_lt h3
                      exact hno r x a a2 (by omega) h4 h1 h2 ⟨h5, h6⟩)
                    rw [h.1, h.2]
                    exact ⟨hb, ht⟩
                  · have h := bk_yes h1 h2
                    rw [h.1, h.2]
                    exact ⟨rfl, h3⟩
                obtain ⟨rfl, rfl⟩ := hend
                clear hinv
                go_wp2_with fail
                go_roundw
                case rel => exact ⟨j + 1, q', by go_num, by omega, rfl, rfl, rfl⟩
                case measure => simp [intOf]; omega
          · have c1 : ¬ (j : Int) + 1 < (N : Int) := by omega
            have hjN : j = l.length - 1 := by rw [HNN.out]; omega
            subst hjN
            by_cases hneg : ba V.mer l (l.length - 1) < 0
            · have hdone := encRun_done (bk_end hneg) N
              have hTl : T = l := HRUN.out.symm.trans hdone
              obtain ⟨tt, htt⟩ : ∃ t, ba V.mer l (l.length - 1) = t := ⟨_, rfl⟩
              rw [htt] at hneg ⊢
              have HTL2 := Lib.hid hTl
              clear hdone hTl htt
              go_wp2_with fail
              go_ret2
              rw [HTL2.out, HR0.out]
              refine ⟨_, rfl, ?_, below_then HB0.out (below_drewN HBR4.out q) HB0.out.size⟩
              rw [HNN.out]
              exact own_le HVL.out HB0.out.size
            · obtain ⟨i, hit, hbest, hil, hbm⟩ := bk_some hneg
              obtain ⟨b, hbb⟩ : ∃ b, bk V.mer l (l.length - 1) = b := ⟨_, rfl⟩
              rw [hbb] at hbest hbm ⊢
              rw [hit]
              have hilN : i + 2 ≤ N := by have := HNN.out; omega
              have hx : V.mer[b]? = some (V.mer[b]'hbm) := List.getElem?_eq_getElem _
              obtain ⟨x, hxe⟩ : ∃ x, x = V.mer[b]'hbm := ⟨_, rfl⟩
              rw [← hxe] at hx
              have hto : toOf V.mer b = x.t := by simp [toOf, List.getD_eq_getElem?_getD, hx]
              obtain ⟨f, hf⟩ : ∃ f, N = f + 1 := ⟨N - 1, by omega⟩
              have hstep := HRUN.out
              rw [hf, encRun_step hbest, hto] at hstep
              have hml : (mergeAt l i x.t).length = f := by rw [mergeAt_len hil, HNN.out, hf]; omega
              obtain ⟨u, hu⟩ : ∃ u, u = wr.drewN q := ⟨_, rfl⟩
              rw [← hu]
              have HU : Hid (Below W.heap.size W u) := Lib.hid (by rw [hu]; exact below_drewN HBR4.out q)
              have HOU : Hid (u.ownsRow W.heap.size 3 1 (.slice A4 N q4) N (l.map i64V)) := Lib.hid (by rw [hu]; exact HVL.out)
              have HF := Lib.hid hf
              clear hf
              have HX := Lib.hid hx
              have HST := Lib.hid hstep
              have HMLN := Lib.hid hml
              have HILN := Lib.hid hilN
              have g0 : ¬ (i : Int) < 0 := by omega
              have g1 : (0 : Int) ≤ (i : Int) := by omega
              have g2 : (i : Int) ≤ (q4 : Int) := by omega
              have g3 : i ≤ q4 := by omega
              have hbm' : b < m := by have := HML.out; omega
              have g4 : (b : Int) < (m : Int) := by omega
              have g5 : (0 : Int) ≤ (b : Int) := by omega
              have hle1 : W.heap.size ≤ u.heap.size := HU.out.size
              clear hit hneg hbest hbb hx hxe hto hstep hu hil
              go_wp2_with (at_builtin; refine wpList_append_src _ rfl (.tmp 100) (.tmp 103) 24 rfl u.heap.size 3 i0 (.int .i64 0) 8 Try.underlying24 hi hz0 hz1 hz2 rfl _ 0 [] rfl (World.ownsRow_made u #[] 0 (Nat.le_refl _) (Nat.zero_le _) rfl) A4 i q4 ((l.take i).map i64V) rfl (srcTo (src_of_own (HOU.out.alloc _)) i (by have := HILN.out; omega)) (i64_one _) (by unfold maxLen; have := HILN.out; omega) (by have := HILN.out; omega) (by simp) ?_; intro v' w5 hown5 hgrow5 hloc5; rw [Nat.zero_add, List.nil_append] at hown5; obtain ⟨A5, q5, rfl⟩ := own_slice hown5; have HO5 := Lib.hid hown5; have HU5 := Lib.hid (((Below.refl u.heap.size u).alloc (Nat.le_refl _) (.cells #[] 3)).grown hgrow5 (by simp) (fun k e => by cases e; exact Nat.le_refl _)); have b1 := (vocab_cellsO _ (HBL.out.below (below_then HU.out HU5.out HU.out.size) HBL.out.lt)).2; obtain ⟨am, e1, -, -, mt⟩ := (HV.out.mer.below (below_then HB0.out (below_then HU.out HU5.out HU.out.size) HB0.out.size)).at_ b x HX.out; subst e1; clear hown5 hgrow5 hloc5; go_wp2_with (at_builtin; refine wpList_append_own_at _ rfl _ _ 24 rfl u.heap.size 3 i0 (.int .i64 0) 1 8 Try.underlying24 hi hz0 hz1 hz2 rfl (by decide) _ i _ rfl (HO5.out.alloc _) ⟨w5.heap.size, 0, none⟩ 1 1 [.int .i64 x.t] rfl rfl one_cell_at (by simp [Value.oneCell']) (by unfold maxLen; have := HILN.out; omega) (by have := HILN.out; omega) (by simp; have := HU5.out.size; omega) ?_; intro v6 w6 hown6 hg6 hnil6 hloc6; obtain ⟨A6, q6, rfl⟩ := own_slice hown6; have HO6 := Lib.hid hown6; have hb6 : Below u.heap.size w5 w6 := (((Below.refl _ w5).alloc HU5.out.size _).grown hg6 (by simp; have := HU5.out.size; omega) (fun k e => (HO5.out.lt k e).1)); have HU6 := Lib.hid (HU5.out.trans hb6); have HOU6 : Hid (w6.ownsRow W.heap.size 3 1 (.slice A4 N q4) N (l.map i64V)) := Lib.hid (ownsRow_block HOU.out fun g hg => HU6.out.block g (HOU.out.lt g hg).2); have hsf := slice_fromI2 w6 A4 N q4 i HILN.out; clear hown6 hg6 hnil6 hloc6 hb6 b1 mt; go_wp2_with (at_builtin; refine wpList_append_src _ rfl (.tmp 114) (.tmp 118) 24 rfl u.heap.size 3 i0 (.int .i64 0) 8 Try.underlying24 hi hz0 hz1 hz2 rfl _ (i + 1) _ rfl HO6.out (cutAddr A4 (i + 2) q4) (N - (i + 2)) (q4 - (i + 2)) ((l.drop (i + 2)).map i64V) rfl (srcFrom (src_of_own HOU6.out) hcap (i + 2) HILN.out) (i64_one _) (by unfold maxLen; have := HILN.out; omega) (by have := HILN.out; omega) HU6.out.size ?_; intro v7 w7 hown7 hg7 hloc7; obtain ⟨A7, q7, rfl⟩ := own_slice hown7; have HO7 := Lib.hid hown7; have HU7 := Lib.hid (HU6.out.grown hg7 HU6.out.size (fun k e => (HO6.out.lt k e).1)); clear hown7 hg7 hloc7 hsf; go_wp2_with fail)))
              have hlenE : i + 1 + (N - (i + 2)) = f := by have := HILN.out; have := HF.out; omega
              have hmapE : (mergeAt l i x.t).map i64V = (l.take i).map i64V ++ [.int .i64 x.t] ++ (l.drop (i + 2)).map i64V := by simp [mergeAt, i64V]
              have hfin : w7.ownsRow W.heap.size 3 1 (.slice A7 (i + 1 + (N - (i + 2))) q7) (mergeAt l i x.t).length ((mergeAt l i x.t).map i64V) := by
                have h := own_le HO7.out hle1
                rw [HMLN.out, ← hlenE, hmapE]
                exact h
              go_roundw
              case rel => exact ⟨mergeAt l i x.t, hfin, by rw [HMLN.out]; exact HST.out, by rw [HMLN.out]; have := HF.out; omega, below_then HU.out HU7.out HU.out.size⟩
              case measure =>
                have := HF.out
                have := HILN.out
                simp [lenOf]; omega
end Go.Proofs.Ytimbimnbaoaboaa
