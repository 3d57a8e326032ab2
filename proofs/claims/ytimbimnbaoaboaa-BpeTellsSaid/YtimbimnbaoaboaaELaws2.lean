/- BpeDone, walked. -/
import Derived.Test.YtimbimnbaoaboaaELaws1
namespace Go.Proofs.Ytimbimnbaoaboaa
open Go.RowKit Go.Maps Go.WideMaps
set_option linter.unusedSimpArgs false

theorem bestUp_nil (l : List Int) : ∀ n, bestUp [] l n = none := fun n => by
  rcases bestUp_spec [] l n with ⟨h, _⟩ | ⟨k, i, _, h⟩
  · exact h
  · obtain ⟨a, b, _, _, h3⟩ := pairRk_some h.rk
    have := (rkOf_lt h3).1
    simp at this
theorem encL_bare {M : List Mg} (h : M.length = 0) (s : Nm) : encL M s = bytesI s := by
  obtain rfl : M = [] := List.length_eq_zero_iff.1 h
  exact encRun_done (bestUp_nil _ _) _
/-- No two tokens beside one another have a merge. -/
theorem enc_none (M : List Mg) (s : Nm) {i k : Nat} {a b : Int} {m : Mg} (ha : (encL M s)[i]? = some a) (hb : (encL M s)[i + 1]? = some b) (hm : M[k]? = some m) : ¬ (m.a = a ∧ m.b = b) := fun e => by
  have h1 := bestOf_no (encRun_end M s.length (bytesI s) (by rw [bytesI_len]; exact Nat.le_refl _)) i
  have h2 : pairRk M (encL M s) i = rkOf M a b := pairRk_at ha hb
  have h3 : pairRk M (encL M s) i = none := h1
  rw [h3] at h2
  have h4 := rkOf_none.1 h2.symm
  have h5 : rkOf M a b = none := h2.symm
  unfold rkOf at h5
  rw [List.findIdx?_eq_none_iff] at h5
  have := h5 m (List.mem_of_getElem? hm)
  simp [e] at this
theorem encR_is {M : List Mg} {s : Nm} (h : s.length ≤ 4096) : encR M s = encL M s := by unfold encR; rw [if_neg (by omega)]
theorem encE_is {s : Nm} (h : s.length ≤ 4096) : encE s = 0 := by unfold encE; rw [if_neg (by omega)]
set_option maxHeartbeats 8000000 in
set_option maxRecDepth 100000 in
theorem bpeDone_any (w : World) (A : Option Addr) (n c : Nat) (ps : List (Int × Int)) (hp : PairsIn w A n ps) (hc : n ≤ c) (B : Option Addr) (p cp : Nat) (s : Nm) (hs : BytesIn w B p s) :
    Calls Try.prog 5 #[.slice A n c, .slice B p cp] w fun e w' => e = .returned (.bool true) ∧ Below w.heap.size w w' := by
  have HP := Lib.hid hp
  have HS := Lib.hid hs
  have HC := Lib.hid hc
  have hn63 : n ≤ 9223372036854775807 := hp.fit
  have hp63 : p ≤ 9223372036854775807 := hs.1
  have hsl : s.length = p := by have := hs.2.1.len; simpa using this
  have HSL := Lib.hid hsl
  obtain ⟨V, hV⟩ : ∃ V, ofV ps = V := ⟨_, rfl⟩
  have HV := Lib.hid hV
  have HO := Lib.hid (ofV_ok ps)
  rw [hV] at HO
  clear hp hs hc hV hsl
  go_enter Try.func5, Try.ntmps5
  go_wp2_with fail
  refine (bpeHead_any w).mono ?_
  rintro e w1 ⟨rfl, hb⟩
  have HB1 := Lib.hid hb
  clear hb
  by_cases hbig : 100 < n ∨ 4096 < p
  · rcases Nat.lt_or_ge 100 n with h1 | h1
    · have d1 : (100 : Int) < (n : Int) := by omega
      go_wp2
      go_ret
      exact ⟨rfl, HB1.out⟩
    · have d1 : ¬ (100 : Int) < (n : Int) := by omega
      have d2 : (4096 : Int) < (p : Int) := by omega
      go_wp2
      go_ret
      exact ⟨rfl, HB1.out⟩
  have d1 : ¬ (100 : Int) < (n : Int) := by omega
  have d2 : ¬ (4096 : Int) < (p : Int) := by omega
  have hn100 : n ≤ 100 := by omega
  have hp4 : s.length ≤ 4096 := by rw [HSL.out]; omega
  obtain ⟨l, hl⟩ : ∃ l, encL V.mer s = l := ⟨_, rfl⟩
  obtain ⟨k, hk⟩ : ∃ k, l.length = k := ⟨_, rfl⟩
  have hkp : k ≤ p := by have := encL_len V.mer s; rw [hl, hk, HSL.out] at this; exact this
  have HL := Lib.hid hl
  have HK := Lib.hid hk
  have HER := Lib.hid (encR_is (M := V.mer) hp4)
  have HEE := Lib.hid (encE_is hp4)
  clear hbig hl hk hp4
  go_wp2_with fail
  refine (of_is w1 A n c ps (HP.out.below HB1.out) (by omega) HC.out HV.out).mono ?_
  rintro e w2 ⟨AT, BM, n', m', ca, cb, rfl, hsee, hb⟩
  have HB2 := Lib.hid (below_then HB1.out hb HB1.out.size)
  have hb3 := (Below.refl w2.heap.size w2).alloc (Nat.le_refl _) (.cells #[.slice AT n' ca, .slice BM m' cb] 29)
  obtain ⟨W3, hW3⟩ : ∃ W3, W3 = w2.alloc (.cells #[.slice AT n' ca, .slice BM m' cb] 29) := ⟨_, rfl⟩
  have hv3 : Blk W3 w2.heap.size 29 #[.slice AT n' ca, .slice BM m' cb] := by rw [hW3]; exact Blk.new _ _ _
  rw [← hW3] at hb3
  have HS3 := Lib.hid (hsee.below hb3)
  have HB3 := Lib.hid (below_then HB2.out hb3 HB2.out.size)
  have HV3 := Lib.hid hv3
  have HML := Lib.hid hsee.mer.len
  have hm512 : m' ≤ 512 := by have := HO.out.ml; have := HML.out; omega
  have HW3 := Lib.hid hW3
  clear hb hsee hb3 hv3 hW3
  go_wp2_with fail
  rw [← HW3.out]
  refine (new_is W3 AT BM n' m' ca cb V HS3.out HO.out).mono ?_
  rintro e w4 ⟨b, rfl, hb, hC⟩
  have HB4 := Lib.hid (below_then HB3.out hb HB3.out.size)
  have HC4 := Lib.hid hC
  have HV4 := Lib.hid (HV3.out.below hb HV3.out.lt)
  have HS4 := Lib.hid (HS3.out.below hb)
  clear hb hC
  go_wp2_with fail
  refine (encode_is w4 b V HC4.out HO.out B p cp s (HS.out.below HB4.out) (HER.out.trans HL.out) HK.out HEE.out).mono ?_
  rintro e w5 ⟨A5, c5, rfl, hi5, _, hb⟩
  have HB5 := Lib.hid (below_then HB4.out hb HB4.out.size)
  have HI5 := Lib.hid hi5
  have HV5 := Lib.hid (HV4.out.below hb HV4.out.lt)
  have HS5 := Lib.hid (HS4.out.below hb)
  obtain ⟨m0, m1⟩ := two_cellsO HV5.out
  have d3 : ¬ (p : Int) < (k : Int) := by omega
  clear hb hi5
  clear m0
  by_cases hm0 : m' = 0
  case' pos =>
    have e1 : ((m' : Int) == 0) = true := by rw [hm0]; rfl
    have e2 : ((k : Int) != (p : Int)) = false := by
      have : k = p := by
        rw [← HK.out, ← HL.out, encL_bare (by rw [HML.out]; exact hm0), bytesI_len, HSL.out]
      rw [this]; simp
    clear hm0
    go_wp2_with fail
    clear e1 e2
  case' neg =>
    have e1 : ((m' : Int) == 0) = false := by simp; omega
    clear hm0
    go_wp2_with fail
    clear e1
  all_goals
    clear m1
    go_loopw [10] (fun i wr => ∃ i0 q : Nat, i0 ≤ k ∧ i = .int .i64 (i0 : Nat) ∧ wr = w5.drewN q) (fun i _ => k - (intOf i).toNat)
    case atStart => exact ⟨0, 0, by omega, rfl, rfl⟩
    case round =>
      obtain ⟨i, q, hik, rfl, rfl⟩ := hrel
      rcases Nat.lt_or_ge (i + 1) k with hlt | hge
      · have c1 : (i : Int) + 1 < (k : Int) := by omega
        go_wp2_with fail
        go_loopw [11] (fun i wr => ∃ j q : Nat, j ≤ m' ∧ i = .int .i64 (j : Nat) ∧ wr = w5.drewN q) (fun i _ => m' - (intOf i).toNat)
        case atStart => exact ⟨0, q, by omega, rfl, rfl⟩
        case round =>
          obtain ⟨j, q', hj, rfl, rfl⟩ := hrel
          have HV' := Lib.hid (HV5.out.drewN q')
          obtain ⟨_, m1⟩ := two_cellsO HV'.out
          rcases Nat.lt_or_ge j m' with hlj | hgj
          · have c2 : (j : Int) < (m' : Int) := by omega
            have c3 : (0 : Int) ≤ (j : Int) := by omega
            have c4 : (0 : Int) ≤ (i : Int) := by omega
            have c5' : (i : Int) < (k : Int) := by omega
            have c6 : (0 : Int) ≤ (i : Int) + 1 := by omega
            obtain ⟨ad, a, rfl, ha, la, -, -⟩ := HI5.out.at i (by omega)
            obtain ⟨ad2, a2, e0, ha2, lb, -, -⟩ := HI5.out.at (i + 1) hlt
            cases e0
            have hmx : V.mer[j]? = some (V.mer[j]'(by rw [HML.out]; exact hlj)) := List.getElem?_eq_getElem _
            obtain ⟨x, hx⟩ : ∃ x, x = V.mer[j]'(by rw [HML.out]; exact hlj) := ⟨_, rfl⟩
            rw [← hx] at hmx
            obtain ⟨am, e1, xa, xb, -⟩ := HS5.out.mer.at_ j x hmx
            subst e1
            have lb' : w5.cell? ⟨(ad.add i).block, (ad.add i).off + 1, none⟩ = some (.int .i64 a2) := by rw [← add_pos' ad i 1 (by omega)]; exact lb
            have hno := enc_none V.mer s (by rw [HL.out]; exact ha) (by rw [HL.out]; exact ha2) hmx
            have laq : ∀ r, (w5.drewN r).cell? (ad.add i) = some (.int .i64 a) := fun _ => la
            have lbq : ∀ r, (w5.drewN r).cell? (ad.add (i + 1)) = some (.int .i64 a2) := fun _ => lb
            have lbq' : ∀ r, (w5.drewN r).cell? ⟨(ad.add i).block, (ad.add i).off + 1, none⟩ = some (.int .i64 a2) := fun _ => lb'
            have lbs : w5.cell? ⟨ad.block, ad.off + (i + 1), none⟩ = some (.int .i64 a2) := by simpa [Addr.add] using lb
            have lbq2 : ∀ r, (w5.drewN r).cell? ⟨ad.block, ad.off + (i + 1), none⟩ = some (.int .i64 a2) := fun _ => lbs
            have xaq : ∀ r, (w5.drewN r).cell? (am.add (j * 3)) = some (.int .i64 x.a) := fun _ => xa
            have xbq : ∀ r, (w5.drewN r).cell? ⟨(am.add (j * 3)).block, (am.add (j * 3)).off + 1, none⟩ = some (.int .i64 x.b) := fun _ => xb
            have m1q : ∀ r, (w5.drewN r).cell? ⟨w2.heap.size, 1, none⟩ = some (.slice (some am) m' cb) := fun _ => (two_cellsO HV5.out).2
            clear hmx hx ha ha2 la lb lb' lbs xa xb m1
            have m1 := m1q q'
            by_cases e1 : x.a = a
            · have e2 : ¬ x.b = a2 := fun e => hno ⟨e1, e⟩
              have f1 : (x.a == a) = true := by simpa using e1
              have f2 : (x.b == a2) = false := by simpa using e2
              clear hno e1 e2
              go_wp2_with fail
              clear m1
              have cx : (i : Int) + 1 < (k : Int) := by omega
              have cn : ((i : Int) + 1).toNat = i + 1 := by omega
              have cw : IntKind.i64.wrap ((i : Int) + 1) = (i : Int) + 1 := by rw [IntKind.wrap_i64]; omega
              go_quiet (fail)
              clear cw cn cx
              go_wp2
              exact ⟨⟨j + 1, _, by omega, by go_num, rfl⟩, by simp [intOf]; omega⟩
            · have f1 : (x.a == a) = false := by simpa using e1
              clear hno e1
              go_wp2_with fail
              clear m1
              go_quiet (fail)
              go_wp2
              exact ⟨⟨j + 1, _, by omega, by go_num, rfl⟩, by simp [intOf]; omega⟩
          · have c2 : ¬ (j : Int) < (m' : Int) := by omega
            go_wp2_with fail
            go_roundw
            case rel => exact ⟨i + 1, q', by omega, by go_num, rfl⟩
            case measure => simp [intOf]; omega
      · have c1 : ¬ (i : Int) + 1 < (k : Int) := by omega
        go_wp2_with fail
        go_ret
        exact ⟨rfl, below_drewN HB5.out q⟩
end Go.Proofs.Ytimbimnbaoaboaa
