/- DiskRefused: what is refused changes nothing. -/
import Derived.Test.YteaeniopfbglnaaScript
namespace Go.Proofs.Yteaeniopfbglnaa
open Go.RowKit Go.Maps Go.WideMaps

set_option maxHeartbeats 4000000 in
set_option maxRecDepth 100000 in
theorem diskRefused_any (w : World) (room : Int) (hroom : room ≤ 9223372036854775807) (A : Option Addr) (n c : Nat) (l : List OpV) (h : OpsIn w A n l) :
    Calls Try.prog 5 #[.int .i64 room, .slice A n c] w fun e w' => e = .returned (.bool true) ∧ Below w.heap.size w w' := by
  have hn := h.len
  have hbig := h.big
  have H := Lib.hid h
  have HN := Lib.hid hn
  have hn2 : n ≤ 1599289641265 := by omega
  clear h hn hbig
  go_enter Try.func5, Try.ntmps5
  go_wp2_with (first
    | (go_at_call 11; refine (head_any _).mono ?_; rintro e w1 ⟨rfl, hb1⟩)
    | (go_at_call 30; refine (New_any _ _ hroom).mono ?_; rintro e w2 ⟨rfl, hD2, hb2⟩; have hs1 := hb1.size; have hb2' := hb1.trans (hb2.mono hs1); have M2 := Lib.hid (Mine.mk (w0 := w) (w := w2) hD2 (fun i hi => by omega) hb2'); have hs2 := hb2'.size; have HB2 := Lib.hid hb2'; clear hD2 hb2 hb2'; unfold at0; generalize w1.heap.size + 2 = b at M2))
  refine (Great_any (H.out.below HB2.out) _).mono ?_
  rintro e w3 ⟨g, m3, rfl, rfl, hg⟩
  cases g with
  | true =>
    clear hg
    go_wp2
    go_ret
    exact ⟨rfl, below_q M2.out.below m3⟩
  | false =>
    have HG := Lib.hid (hg rfl)
    clear hg
    have M3 := Lib.hid (M2.out.drewN m3)
    go_wp2
    go_loopw [7] (fun i wr => ∃ (k : Nat) (s : St) (F : Nat → Prop), k ≤ n ∧ i = .int .i64 k ∧ Mine w wr F b s ∧ Runs s k) (fun i _ => n - (intOf i).toNat)
    case atStart => exact ⟨0, _, _, Nat.zero_le _, rfl, M3.out, rfl, Nat.le_refl _, Nat.le_refl _⟩
    case round =>
      obtain ⟨k, s, F, hk, rfl, hM, hR⟩ := hrel
      by_cases hlt : k < n
      · have HL := HN.out
        cases A with
        | none => have := H.out.nil rfl; omega
        | some ad =>
          obtain ⟨o, ho⟩ : ∃ o, l[k]? = some o := ⟨_, List.getElem?_eq_getElem (by omega)⟩
          have hin := H.out.op o (List.mem_of_getElem? ho)
          have hF := hM.disk.size
          have hac := hR.acts
          have hch := hR.chs
          have hmid := hR.mid
          have hll : k ≤ 300 := by have := (HG.out).1; omega
          have hcell : ∀ W, Below w.heap.size w W → OpsIn W (some ad) n l := fun W hb => H.out.below hb
          have HM := Lib.hid hM
          have HR := Lib.hid hR
          have HO := Lib.hid ho
          have HIN := Lib.hid hin
          have HCL := Lib.hid hcell
          have HMID := Lib.hid hmid
          clear hM hR ho hin hcell hmid HL
          obtain ⟨blk, off, sp⟩ := ad
          go_wp2_with (first
            | (go_at_call 28; refine (Files_any HM.out.disk).mono ?_; rintro e w4 ⟨v4, rfl, hf4, hb4⟩; have M4 := Lib.hid (HM.out.later hb4); have HF4 := Lib.hid hf4; have hs4 := hb4.size; have c0 := (HCL.out _ M4.out.below).head HO.out; have c1 := (HCL.out _ M4.out.below).field HO.out 0 rfl; have c2 := (HCL.out _ M4.out.below).field HO.out 1 rfl; have c3 := (HCL.out _ M4.out.below).field HO.out 2 rfl; have c4 := (HCL.out _ M4.out.below).field HO.out 3 rfl; have c5 := (HCL.out _ M4.out.below).field HO.out 4 rfl; clear hf4 hb4)
            | (go_at_call 22; refine (acts_any M4.out.disk).mono ?_; rintro e w' ⟨rfl, rfl⟩)
            | (go_at_call 23; refine (down_any M4.out.disk).mono ?_; rintro e w' ⟨rfl, rfl⟩))
          refine (does_any M4.out.disk HMID.out (by omega) (by omega) o (HIN.out.below M4.out.below) (M4.out.awayB HIN.out) (M4.out.awayC HIN.out)).mono ?_
          rintro e w5 ⟨m, s', F', rfl, hst, hD5, hk5, hF5⟩
          have hM5 : Mine w w5 F' b s' := ⟨hD5, fun i hi => by
            rcases hF5 i hi with h1 | h1
            · exact M4.out.new i h1
            · exact Nat.le_trans M4.out.below.size h1, M4.out.below.trans (hk5.toBelow M4.out.below.size M4.out.new)⟩
          have HF5 := Lib.hid (HF4.out.kept hk5 hF)
          have HR5 := Lib.hid (hst.runs HR.out)
          have d0 := (HCL.out _ hM5.below).head HO.out
          have HM5 := Lib.hid hM5
          have HST := Lib.hid hst
          have hfl : (filesOf s).length ≤ 300 := by simp only [filesOf, List.length_map]; have := hM5.disk.wf; have := HM.out.disk.wf.nnow; omega
          clear hst hD5 hk5 hF5 hM5 c0 c1 c2 c3 c4 c5 hF
          by_cases hw0 : o.what < 0
          · have hw6 : ¬ 6 < o.what := by omega
            go_wp2
            go_roundw
            case rel => exact ⟨k + 1, s', F', by omega, by go_num, HM5.out, HR5.out⟩
            case measure => simp [intOf]; omega
          by_cases hw6 : 6 < o.what
          · go_wp2
            go_roundw
            case rel => exact ⟨k + 1, s', F', by omega, by go_num, HM5.out, HR5.out⟩
            case measure => simp [intOf]; omega
          have h3 := HST.out.three (by omega) (by omega)
          rcases h3 with ⟨rfl, rfl⟩ | ⟨hd, hm0, hm14, rfl⟩ | ⟨hd, rfl, ha⟩
          · go_wp2_with (first
              | (go_at_call 23; refine (down_any HM5.out.disk).mono ?_; rintro e w' ⟨rfl, rfl⟩)
              | (go_at_call 28; refine (Files_any HM5.out.disk).mono ?_; rintro e w6 ⟨v6, rfl, hf6, hb6⟩; have M6 := Lib.hid (HM5.out.later hb6); have HF6 := Lib.hid hf6; have HF7 := Lib.hid (HF5.out.below hb6); clear hf6 hb6)
              | (go_at_call 27; refine (SameFiles_any HF6.out HF7.out hfl).mono ?_; rintro e w7 ⟨rfl, m7, rfl⟩; rw [show decide (filesOf { s with down := true } = filesOf s) = true from by simp [filesOf]]; have M7 := Lib.hid (M6.out.drewN m7))
              | (go_at_call 22; refine (acts_any M7.out.disk).mono ?_; rintro e w' ⟨rfl, rfl⟩))
            all_goals
              go_roundw
              case rel => exact ⟨k + 1, _, F', by omega, by go_num, M7.out, HR5.out⟩
              case measure => simp [intOf]; omega
          · have b1 : (m == 14) = false := by simpa using hm14
            have b2 : (m != 14) = true := by simpa using hm14
            have b3 : (m == 0) = false := by simpa using hm0
            have b4 : (m != 0) = true := by simpa using hm0
            rw [hd]
            clear hd hm0 hm14
            go_wp2_with (first
              | (go_at_call 23; refine (down_any HM5.out.disk).mono ?_; rintro e w' ⟨rfl, rfl⟩)
              | (go_at_call 28; refine (Files_any HM5.out.disk).mono ?_; rintro e w6 ⟨v6, rfl, hf6, hb6⟩; have M6 := Lib.hid (HM5.out.later hb6); have HF6 := Lib.hid hf6; have HF7 := Lib.hid (HF5.out.below hb6); clear hf6 hb6)
              | (go_at_call 27; refine (SameFiles_any HF6.out HF7.out hfl).mono ?_; rintro e w7 ⟨rfl, m7, rfl⟩; rw [decide_eq_true (rfl : filesOf s' = filesOf s')]; have M7 := Lib.hid (M6.out.drewN m7))
              | (go_at_call 22; refine (acts_any M7.out.disk).mono ?_; rintro e w' ⟨rfl, rfl⟩))
            go_roundw
            case rel => exact ⟨k + 1, _, F', by omega, by go_num, M7.out, HR5.out⟩
            case measure => simp [intOf]; omega
          · have hab : ((s'.acts : Int) != (s.acts : Int) + 1) = false := by simp; omega
            rw [hd]
            have HA := Lib.hid ha
            clear hd ha
            go_wp2_with (first
              | (go_at_call 23; refine (down_any HM5.out.disk).mono ?_; rintro e w' ⟨rfl, rfl⟩)
              | (go_at_call 22; refine (acts_any HM5.out.disk).mono ?_; rintro e w' ⟨rfl, rfl⟩))
            go_roundw
            case rel => exact ⟨k + 1, _, F', by omega, by go_num, HM5.out, HR5.out⟩
            case measure => simp [intOf]; omega
      · go_wp2
        go_ret
        exact ⟨rfl, hM.below⟩
end Go.Proofs.Yteaeniopfbglnaa
