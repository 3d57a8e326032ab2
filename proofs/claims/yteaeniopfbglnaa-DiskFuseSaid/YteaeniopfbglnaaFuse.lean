/- DiskFuse: with a fuse of n just n acts are done; a crash with nothing kept leaves what was synced. -/
import Derived.Test.YteaeniopfbglnaaFuseMath
import Derived.Test.YteaeniopfbglnaaCut
namespace Go.Proofs.Yteaeniopfbglnaa
open Go.RowKit Go.Maps Go.WideMaps

theorem op_key (o : OpV) : o.a = ⟨o.key.toArray⟩ := by
  obtain ⟨_, ⟨⟨k⟩⟩⟩ := o
  rfl

set_option maxHeartbeats 8000000 in
set_option maxRecDepth 100000 in
theorem diskFuse_any (w : World) (N : Int) (hN0 : 0 ≤ N) (hN : N ≤ 255) (A : Option Addr) (n c : Nat) (l : List OpV) (h : OpsIn w A n l) :
    Calls Try.prog 6 #[.int .u8 N, .slice A n c] w fun e w' => e = .returned (.bool true) ∧ Below w.heap.size w w' := by
  have hn := h.len
  have hbig := h.big
  have hn2 : n ≤ 1599289641265 := by omega
  have H := Lib.hid h
  have HN := Lib.hid hn
  clear h hn hbig
  go_enter Try.func6, Try.ntmps6
  go_wp2_with (first
    | (go_at_call 11; refine (head_any _).mono ?_; rintro e w1 ⟨rfl, hb1⟩)
    | (go_at_call 30; refine (New_any _ _ (by decide)).mono ?_; rintro e w2 ⟨rfl, hD2, hb2⟩; have hs1 := hb1.size; have hb2' := hb1.trans (hb2.mono hs1); have M2 := Lib.hid (Mine.mk (w0 := w) (w := w2) hD2 (fun i hi => by omega) hb2'); have hs2 := hb2'.size; have HB2 := Lib.hid hb2'; clear hD2 hb2 hb2'; unfold at0; generalize w1.heap.size + 2 = b at M2))
  refine (Great_any (H.out.below HB2.out) _).mono ?_
  rintro e w3 ⟨g, m3, rfl, rfl, hg⟩
  cases g with
  | true =>
    clear hg
    go_wp2
    go_ret
    exact ⟨rfl, below_q M2.out.below m3⟩
  | false =>
    have HG := Lib.hid (hg rfl)
    clear hg
    have M3 := Lib.hid (M2.out.drewN m3)
    go_wp2_with fail
    refine (Fuse_any M3.out.disk N (by omega)).mono ?_
    rintro e w4 ⟨rfl, hD4, hk4⟩
    have M4 := Lib.hid (M3.out.crash hD4 (fun _ h => .inl h) hk4)
    have hfu : Fused N { St.new (100000 : Int).toNat with fuse := max N (-1) } := ⟨by show 0 ≤ max N (-1); omega, by show ((0 : Nat) : Int) + max N (-1) = N; omega, fun h => by cases h⟩
    have HFU := Lib.hid hfu
    clear hD4 hk4 hfu
    go_wp2
    go_loopw [7] (fun i wr => ∃ (k : Nat) (s : St) (F : Nat → Prop), k ≤ n ∧ i = .int .i64 k ∧ Mine w wr F b s ∧ Runs s k ∧ Fused N s ∧ FromOps l s) (fun i _ => n - (intOf i).toNat)
    case atStart => exact ⟨0, _, _, Nat.zero_le _, rfl, M4.out, ⟨rfl, Nat.le_refl _, Nat.le_refl _⟩, HFU.out, (fun p hp => by cases hp), (fun p hp => by cases hp)⟩
    case round =>
      obtain ⟨k, s, F, hk, rfl, hM, hR, hFu, hFo⟩ := hrel
      by_cases hlt : k < n
      · have HL := HN.out
        cases A with
        | none => have := H.out.nil rfl; omega
        | some ad =>
          obtain ⟨o, ho⟩ : ∃ o, l[k]? = some o := ⟨_, List.getElem?_eq_getElem (by omega)⟩
          have hol := List.mem_of_getElem? ho
          have hin := H.out.op o hol
          have hF := hM.disk.size
          have hac := hR.acts
          have hch := hR.chs
          have hmid := hR.mid
          have hll : k ≤ 300 := by have := (HG.out).1; omega
          have c0 := (H.out.below hM.below).head ho
          have c1 := (H.out.below hM.below).field ho 0 rfl
          have c2 := (H.out.below hM.below).field ho 1 rfl
          have c3 := (H.out.below hM.below).field ho 2 rfl
          have c4 := (H.out.below hM.below).field ho 3 rfl
          have c5 := (H.out.below hM.below).field ho 4 rfl
          have HM := Lib.hid hM
          have HR := Lib.hid hR
          have HIN := Lib.hid hin
          have HMID := Lib.hid hmid
          have HFS := Lib.hid hFu
          have HFO := Lib.hid hFo
          have HOL := Lib.hid hol
          clear hM hR ho hol hin hmid HL hFu hFo
          obtain ⟨blk, off, sp⟩ := ad
          by_cases hw : o.what = 7 ∨ o.what = 8
          · have M5 := HM
            have HR5 := Lib.hid (show Runs s (k + 1) from ⟨HR.out.mid, Nat.le_succ_of_le HR.out.acts, Nat.le_succ_of_le HR.out.chs⟩)
            have FU5 := HFS
            have FO5 := HFO
            clear c1 c2 c3 c4 c5 hF
            obtain ⟨s', hs'⟩ : ∃ s', s' = s := ⟨_, rfl⟩
            subst hs'
            rename Nat → Prop => F'
            have hw7 : (o.what != 7) = true ∧ (o.what != 8) = false ∨ (o.what != 7) = false := by
              rcases hw with h | h
              · exact .inr (by simp [h])
              · exact .inl (by simp [h])
            clear hw
            rcases hw7 with ⟨t1, t2⟩ | t1
            · skip
              have hsum := FU5.out.sum
              have hfu0 := FU5.out.f0
              have hoff := FU5.out.off
              have hle : ((s'.acts : Nat) : Int) ≤ N := by omega
              cases hdn : s'.down with
              | false =>
                have HDN := Lib.hid hdn
                clear hsum hfu0 hoff hdn
                go_wp2_with (first
                  | (go_at_call 22; refine (acts_any M5.out.disk).mono ?_; rintro e w' ⟨rfl, rfl⟩)
                  | (go_at_call 23; refine (down_any M5.out.disk).mono ?_; rintro e w' ⟨rfl, rfl⟩; rw [HDN.out]))
                go_roundw
                case rel => exact ⟨k + 1, s', F', by omega, by go_num, M5.out, HR5.out, FU5.out, FO5.out⟩
                case measure => simp [intOf]; omega
              | true =>
                have hz := hoff hdn
                have hne : (((s'.acts : Nat) : Int) != N) = false := by simp; omega
                have HDN := Lib.hid hdn
                clear hsum hfu0 hoff hdn hz
                go_wp2_with (first
                  | (go_at_call 22; refine (acts_any M5.out.disk).mono ?_; rintro e w' ⟨rfl, rfl⟩)
                  | (go_at_call 23; refine (down_any M5.out.disk).mono ?_; rintro e w' ⟨rfl, rfl⟩; rw [HDN.out]))
                go_roundw
                case rel => exact ⟨k + 1, s', F', by omega, by go_num, M5.out, HR5.out, FU5.out, FO5.out⟩
                case measure => simp [intOf]; omega
            · skip
              have hsum := FU5.out.sum
              have hfu0 := FU5.out.f0
              have hoff := FU5.out.off
              have hle : ((s'.acts : Nat) : Int) ≤ N := by omega
              cases hdn : s'.down with
              | false =>
                have HDN := Lib.hid hdn
                clear hsum hfu0 hoff hdn
                go_wp2_with (first
                  | (go_at_call 22; refine (acts_any M5.out.disk).mono ?_; rintro e w' ⟨rfl, rfl⟩)
                  | (go_at_call 23; refine (down_any M5.out.disk).mono ?_; rintro e w' ⟨rfl, rfl⟩; rw [HDN.out]))
                go_roundw
                case rel => exact ⟨k + 1, s', F', by omega, by go_num, M5.out, HR5.out, FU5.out, FO5.out⟩
                case measure => simp [intOf]; omega
              | true =>
                have hz := hoff hdn
                have hne : (((s'.acts : Nat) : Int) != N) = false := by simp; omega
                have HDN := Lib.hid hdn
                clear hsum hfu0 hoff hdn hz
                go_wp2_with (first
                  | (go_at_call 22; refine (acts_any M5.out.disk).mono ?_; rintro e w' ⟨rfl, rfl⟩)
                  | (go_at_call 23; refine (down_any M5.out.disk).mono ?_; rintro e w' ⟨rfl, rfl⟩; rw [HDN.out]))
                go_roundw
                case rel => exact ⟨k + 1, s', F', by omega, by go_num, M5.out, HR5.out, FU5.out, FO5.out⟩
                case measure => simp [intOf]; omega
          · have t1 : (o.what != 7) = true := by simp; omega
            have t2 : (o.what != 8) = true := by simp; omega
            go_wp2_with fail
            refine (does_any HM.out.disk HMID.out (by omega) (by omega) o (HIN.out.below HM.out.below) (HM.out.awayB HIN.out) (HM.out.awayC HIN.out)).mono ?_
            rintro e w5 ⟨m, s', F', rfl, hst, hD5, hk5, hF5⟩
            have M5 := Lib.hid (HM.out.crash hD5 hF5 hk5)
            have HR5 := Lib.hid (hst.runs HR.out)
            have FU5 := Lib.hid (hst.fused (by omega) (by omega) HFS.out)
            have FO5 := Lib.hid (HFO.out.turn HOL.out (hst.now (by omega) (by omega)))
            clear hst hD5 hk5 hF5 c0 c1 c2 c3 c4 c5 hF hw
            have hsum := FU5.out.sum
            have hfu0 := FU5.out.f0
            have hoff := FU5.out.off
            have hle : ((s'.acts : Nat) : Int) ≤ N := by omega
            cases hdn : s'.down with
            | false =>
              have HDN := Lib.hid hdn
              clear hsum hfu0 hoff hdn
              go_wp2_with (first
                | (go_at_call 22; refine (acts_any M5.out.disk).mono ?_; rintro e w' ⟨rfl, rfl⟩)
                | (go_at_call 23; refine (down_any M5.out.disk).mono ?_; rintro e w' ⟨rfl, rfl⟩; rw [HDN.out]))
              go_roundw
              case rel => exact ⟨k + 1, s', F', by omega, by go_num, M5.out, HR5.out, FU5.out, FO5.out⟩
              case measure => simp [intOf]; omega
            | true =>
              have hz := hoff hdn
              have hne : (((s'.acts : Nat) : Int) != N) = false := by simp; omega
              have HDN := Lib.hid hdn
              clear hsum hfu0 hoff hdn hz
              go_wp2_with (first
                | (go_at_call 22; refine (acts_any M5.out.disk).mono ?_; rintro e w' ⟨rfl, rfl⟩)
                | (go_at_call 23; refine (down_any M5.out.disk).mono ?_; rintro e w' ⟨rfl, rfl⟩; rw [HDN.out]))
              go_roundw
              case rel => exact ⟨k + 1, s', F', by omega, by go_num, M5.out, HR5.out, FU5.out, FO5.out⟩
              case measure => simp [intOf]; omega
      · obtain rfl : k = n := by omega
        have hll : k ≤ 300 := by have := (HG.out).1; have := HN.out; omega
        have hcl : s.chs.length < 1099511627776 := by have := hR.chs; omega
        have hac : s.acts ≤ 300 := by have := hR.acts; omega
        have hl4 : s.now.length ≤ 64 := hM.disk.wf.nnow
        have HM := Lib.hid hM
        have HFO := Lib.hid hFo
        clear hM hR hFu hFo
        go_wp2_with fail
        refine (Names_any HM.out.disk).mono ?_
        rintro e w4 ⟨v4, rfl, hf4, hb4⟩
        obtain ⟨A4, c4, rfl⟩ := own_slice hf4
        have M4 := Lib.hid (HM.out.later hb4)
        clear hf4 hb4
        go_wp2_with fail
        refine (Crash_any M4.out.disk hcl 0 (by decide) none 0 0 [] ⟨rfl, (fun ad e => by cases e), fun _ => rfl⟩ (fun ad e => by cases e) (fun j => by simp [cutOf])).mono ?_
        rintro e w5 ⟨rfl, ⟨F5, hD5, hF5⟩, hk5⟩
        have M5 := Lib.hid (M4.out.crash hD5 hF5 hk5)
        clear hD5 hF5 hk5
        have hS1 : (s.crashed 0 []).fuse = -1 ∧ (s.crashed 0 []).down = false ∧ (s.crashed 0 []).acts ≤ 300 := ⟨rfl, rfl, by simp only [St.crashed, cutN_acts, St.replayed]; omega⟩
        have hkn := HFO.out.crashed
        generalize s.crashed 0 [] = S1 at *
        have HKN := Lib.hid hkn
        have HS1 := Lib.hid hS1
        clear hkn hS1
        go_wp2_with fail
        refine (Names_any M5.out.disk).mono ?_
        rintro e w6 ⟨v6, rfl, hf6, hb6⟩
        have hf6' : w6.ownsRow w5.heap.size 9 1 v6 S1.now.length ((nms S1.now).map encStr) := by
          have e2 : (nms S1.now).map encStr = S1.now.map fun p => encStr p.1 := by simp [nms, Function.comp_def]
          rw [e2]; exact hf6
        obtain ⟨A6, c6, rfl⟩ := own_slice hf6
        have M6 := Lib.hid (M5.out.later hb6)
        have HF6 := Lib.hid hf6'
        have hlen6 : (nms S1.now).length = S1.now.length := by simp [nms]
        have HL6 := Lib.hid hlen6
        have hl6 : S1.now.length ≤ 64 := M5.out.disk.wf.nnow
        clear hf6 hb6 hf6' hlen6
        go_wp2
        go_loopw [10] (fun i wr => ∃ j m : Nat, j ≤ S1.now.length ∧ i = .int .i64 j ∧ wr = w6.drewN m) (fun i _ => S1.now.length - (intOf i).toNat)
        case atStart => exact ⟨0, 0, Nat.zero_le _, rfl, rfl⟩
        case round =>
          obtain ⟨j, m, hj, rfl, rfl⟩ := hrel
          by_cases hjl : j < S1.now.length
          · obtain ⟨x, hx⟩ : ∃ x, (nms S1.now)[j]? = some x := ⟨_, List.getElem?_eq_getElem (by have := HL6.out; omega)⟩
            obtain ⟨g6, c6', hv6, e1⟩ := str_at HF6.out hx
            injection hv6 with hA6 _ hc6
            subst hA6 hc6
            have e1' : ∀ q, (w6.drewN q).cell? ⟨g6, j, none⟩ = some (.string ⟨x.toArray⟩) := fun _ => e1
            have HX := Lib.hid (HKN.out x (List.mem_of_getElem? hx))
            have hj0 : (0 : Int) ≤ j := by omega
            have hjl' : (j : Int) < S1.now.length := by omega
            clear e1 hx
            go_wp2
            go_loopw [11, 12] (fun b i wr => ∃ q m : Nat, q ≤ k ∧ i = .int .i64 q ∧ b = .bool ((l.take q).any (fun o => o.key == x || o.bs == x)) ∧ wr = w6.drewN m) (fun _ i _ => k - (intOf i).toNat)
            case atStart => exact ⟨0, m, Nat.zero_le _, rfl, rfl, rfl⟩
            case round =>
              obtain ⟨q, m', hq, rfl, rfl, rfl⟩ := hrel
              by_cases hql : q < k
              · have HL := HN.out
                cases A with
                | none => have := H.out.nil rfl; omega
                | some ad =>
                  obtain ⟨o, ho⟩ : ∃ o, l[q]? = some o := ⟨_, List.getElem?_eq_getElem (by omega)⟩
                  have hin := H.out.op o (List.mem_of_getElem? ho)
                  have hO6 := H.out.below M6.out.below
                  have c1 : ∀ q', (w6.drewN q').cell? ⟨(ad.add (q * 6)).block, (ad.add (q * 6)).off + 1, none⟩ = some (.string ⟨o.key.toArray⟩) := fun _ => by rw [← op_key]; exact hO6.field ho 0 rfl
                  have c2 : ∀ q', (w6.drewN q').cell? ⟨(ad.add (q * 6)).block, (ad.add (q * 6)).off + 2, none⟩ = some (.slice o.B o.bn o.bc) := fun _ => hO6.field ho 1 rfl
                  have hsB := (hin.below M6.out.below).b.2.1
                  have hbl : o.bs.length = o.bn := by have := hsB.len; simpa using this
                  have cv : ∀ q', (convert 33 9 (.slice o.B o.bn o.bc)).run Try.prog (w6.drewN q') = .ok (.string ⟨o.bs.toArray⟩) (w6.drewN q') := fun q' => by
                    have h1 := string_of_src (w := w6.drewN q') (n := o.bn) (d := o.bs) (hsB.keep fun _ _ _ => rfl) o.bn o.bc (Nat.le_refl _)
                    rwa [List.take_of_length_le (by omega)] at h1
                  have hq0 : (0 : Int) ≤ q := by omega
                  have hqn : (q : Int) < k := by omega
                  have hany : (l.take (q + 1)).any (fun o => o.key == x || o.bs == x) = ((l.take q).any (fun o => o.key == x || o.bs == x) || (o.key == x || o.bs == x)) := by rw [take_snoc' _ _ _ ho, List.any_append]; simp
                  have HANY := Lib.hid hany
                  generalize hb : (l.take q).any (fun o => o.key == x || o.bs == x) = b at *
                  clear hany ho hin hO6 hsB hbl HL
                  obtain ⟨blk, off, sp⟩ := ad
                  cases b
                  · cases hkx : (o.key == x)
                    · rw [hkx] at HANY
                      go_wp2
                      go_quiet (fail)
                      go_wp2
                      go_roundw
                      case rel => exact ⟨q + 1, m' + nq, by omega, by go_num, by rw [HANY.out]; simp, rfl⟩
                      case measure => simp [intOf]; omega
                    · rw [hkx] at HANY
                      go_wp2
                      go_quiet (fail)
                      go_wp2
                      go_roundw
                      case rel => exact ⟨q + 1, m' + nq, by omega, by go_num, by rw [HANY.out]; simp, rfl⟩
                      case measure => simp [intOf]; omega
                  · go_wp2
                    go_quiet (fail)
                    go_wp2
                    go_roundw
                    case rel => exact ⟨q + 1, m' + nq, by omega, by go_num, by rw [HANY.out]; simp, rfl⟩
                    case measure => simp [intOf]; omega
              · obtain rfl : q = k := by omega
                rw [List.take_of_length_le (by have := HN.out; omega), HX.out]
                go_wp2
                go_roundw
                case rel => exact ⟨j + 1, m', by omega, by go_num, rfl⟩
                case measure => simp [intOf]; omega
          · obtain rfl : j = S1.now.length := by omega
            have M6m := Lib.hid (M6.out.drewN m)
            have hdn := Lib.hid HS1.out.2.1
            go_wp2_with fail
            refine (down_any M6m.out.disk).mono ?_
            rintro e w' ⟨rfl, rfl⟩
            rw [hdn.out]
            go_wp2_with fail
            refine (SyncDir_any M6m.out.disk (by have := HS1.out.2.2; omega)).mono ?_
            rintro e w7 ⟨r, s7, F7, rfl, hT7, hD7, hk7, hF7⟩
            obtain ⟨rfl, hs7⟩ := syncDir_ok hT7 HS1.out.1 hdn.out
            have M7 := Lib.hid (M6m.out.crash hD7 hF7 hk7)
            have hle : (s.now.length : Int) ≤ 64 := by omega
            clear hT7 hD7 hk7 hF7 hs7
            go_wp2
            go_ret
            exact ⟨rfl, M7.out.below⟩
end Go.Proofs.Yteaeniopfbglnaa
