/- DiskRoom: the directory's files never use more than the room. -/
import Derived.Test.YteaeniopfbglnaaRoomMath
import Derived.Test.YteaeniopfbglnaaCut
import Derived.Sort.Walk0
namespace Go.Proofs.Yteaeniopfbglnaa
open Go.RowKit Go.Maps Go.WideMaps

set_option maxHeartbeats 8000000 in
set_option maxRecDepth 100000 in
theorem diskRoom_any (w : World) (R : Int) (hR0 : 0 ≤ R) (hR : R ≤ 65535) (A : Option Addr) (n c : Nat) (l : List OpV) (h : OpsIn w A n l) :
    Calls Try.prog 7 #[.int .u16 R, .slice A n c] w fun e w' => e = .returned (.bool true) ∧ Below w.heap.size w w' := by
  have hn := h.len
  have hbig := h.big
  have hn2 : n ≤ 1599289641265 := by omega
  have H := Lib.hid h
  have HN := Lib.hid hn
  clear h hn hbig
  go_enter Try.func7, Try.ntmps7
  go_wp2_with (first
    | (go_at_call 11; refine (head_any _).mono ?_; rintro e w1 ⟨rfl, hb1⟩)
    | (go_at_call 30; refine (New_any _ _ (by omega)).mono ?_; rintro e w2 ⟨rfl, hD2, hb2⟩; have hs1 := hb1.size; have hb2' := hb1.trans (hb2.mono hs1); have M2 := Lib.hid (Mine.mk (w0 := w) (w := w2) hD2 (fun i hi => by omega) hb2'); have hs2 := hb2'.size; have HB2 := Lib.hid hb2'; clear hD2 hb2 hb2'; unfold at0; generalize w1.heap.size + 2 = b at M2))
  refine (Great_any (H.out.below HB2.out) _).mono ?_
  rintro e w3 ⟨g, m3, rfl, rfl, hg⟩
  cases g with
  | true =>
    clear hg
    go_wp2
    go_ret
    exact ⟨rfl, below_q M2.out.below m3⟩
  | false =>
    have HG := Lib.hid (hg rfl)
    clear hg
    have M3 := Lib.hid (M2.out.drewN m3)
    have hro : Roomy R.toNat (St.new R.toNat) := ⟨rfl, Nat.zero_le _, List.nodup_nil⟩
    have HRO := Lib.hid hro
    clear hro
    go_wp2
    go_loopw [7] (fun i wr => ∃ (k : Nat) (s : St) (F : Nat → Prop), k ≤ n ∧ i = .int .i64 k ∧ Mine w wr F b s ∧ Runs s k ∧ Roomy R.toNat s) (fun i _ => n - (intOf i).toNat)
    case atStart => exact ⟨0, _, _, Nat.zero_le _, rfl, M3.out, ⟨rfl, Nat.le_refl _, Nat.le_refl _⟩, HRO.out⟩
    case round =>
      obtain ⟨k, s, F, hk, rfl, hM, hR5, hRo⟩ := hrel
      by_cases hlt : k < n
      · have HL := HN.out
        cases A with
        | none => have := H.out.nil rfl; omega
        | some ad =>
          obtain ⟨o, ho⟩ : ∃ o, l[k]? = some o := ⟨_, List.getElem?_eq_getElem (by omega)⟩
          have hol := List.mem_of_getElem? ho
          have hin := H.out.op o hol
          have hF := hM.disk.size
          have hac := hR5.acts
          have hch := hR5.chs
          have hmid := hR5.mid
          have hll : k ≤ 300 := by have := (HG.out).1; omega
          have c0 := (H.out.below hM.below).head ho
          have c1 := (H.out.below hM.below).field ho 0 rfl
          have c2 := (H.out.below hM.below).field ho 1 rfl
          have c3 := (H.out.below hM.below).field ho 2 rfl
          have c4 := (H.out.below hM.below).field ho 3 rfl
          have c5 := (H.out.below hM.below).field ho 4 rfl
          have HM := Lib.hid hM
          have HR := Lib.hid hR5
          have HIN := Lib.hid hin
          have HMID := Lib.hid hmid
          have HRM := Lib.hid hRo
          have HO := Lib.hid ho
          clear hM hR5 ho hol hin hmid HL hRo
          obtain ⟨blk, off, sp⟩ := ad
          go_wp2_with fail
          refine (does_any HM.out.disk HMID.out (by omega) (by omega) o (HIN.out.below HM.out.below) (HM.out.awayB HIN.out) (HM.out.awayC HIN.out)).mono ?_
          rintro e w5 ⟨m, s', F', rfl, hst, hD5, hk5, hF5⟩
          have M5 := Lib.hid (HM.out.crash hD5 hF5 hk5)
          have HR5 := Lib.hid (hst.runs HR.out)
          have HST := Lib.hid hst
          clear hst hD5 hk5 hF5 c0 c1 c2 c3 c4 c5 hF
          go_wp2_with fail
          refine (Files_any M5.out.disk).mono ?_
          rintro e w6 ⟨v6, rfl, hf6, hb6⟩
          obtain ⟨A6, c6, rfl⟩ := hf6.slice
          have M6 := Lib.hid (M5.out.later hb6)
          have hl6 : (filesOf s').length ≤ 64 := by simp only [filesOf, List.length_map]; exact M5.out.disk.wf.nnow
          have hsrt : ∀ (q : Nat) (x y : Nm × Nm), (filesOf s')[q]? = some x → (filesOf s')[q + 1]? = some y → x.1 < y.1 := fun q x y hx hy => by
            obtain ⟨bn, bo, cv, cls, fv, hd⟩ := M5.out.disk
            exact files_sorted (dir_sorted hd.now) hx hy
          have hused : lenF (filesOf s') ≤ 16777216 := by rw [lenF_files]; exact used_le M5.out.disk.wf
          have hlf := lenF_files s'
          have HLF := Lib.hid hlf
          have HSRT := Lib.hid hsrt
          have HF6 := Lib.hid hf6
          have d0 : ∀ q, (w6.drewN q).cell? ((⟨blk, off, sp⟩ : Addr).add (k * 6)) = some (.int .i64 o.what) := fun _ => (H.out.below M6.out.below).head HO.out
          have D0 := Lib.hid d0
          generalize filesOf s' = L at *
          clear hf6 hb6 hlf hsrt d0
          go_wp2
          go_loopw [9, 10] (fun t i wr => ∃ q m : Nat, q ≤ L.length ∧ i = .int .i64 q ∧ t = .int .i64 (lenF (L.take q)) ∧ lenF (L.take q) ≤ lenF L ∧ wr = w6.drewN m) (fun _ i _ => L.length - (intOf i).toNat)
          case atStart => exact ⟨0, 0, Nat.zero_le _, rfl, rfl, Nat.zero_le _, rfl⟩
          case round =>
            obtain ⟨q, m6, hq, rfl, rfl, hle, rfl⟩ := hrel
            by_cases hql : q < L.length
            · obtain ⟨x, hx⟩ : ∃ x, L[q]? = some x := ⟨_, List.getElem?_eq_getElem hql⟩
              obtain ⟨g6, sv, rfl, _, e1, e2, e3⟩ := HF6.out.at_ hx
              obtain ⟨A3, c3, rfl⟩ := own_slice e3
              have e1' : ∀ q', (w6.drewN q').cell? ⟨g6, q * 2, none⟩ = some (.string ⟨x.1.toArray⟩) := fun _ => e1
              have e2' : ∀ q', (w6.drewN q').cell? ⟨g6, q * 2 + 1, none⟩ = some (.slice A3 x.2.length c3) := fun _ => e2
              have hsn : lenF (L.take (q + 1)) = lenF (L.take q) + x.2.length := by rw [take_snoc' _ _ _ hx, lenF_snoc]
              have hle2 : lenF (L.take q) + x.2.length ≤ lenF L := by
                rw [← hsn]
                conv => rhs; rw [← List.take_append_drop (q + 1) L]
                simp only [lenF, List.map_append, List.sum_append]; omega
              have HSN := Lib.hid hsn
              have hq0 : (0 : Int) ≤ q := by omega
              have hql' : (q : Int) < L.length := by omega
              generalize hS : lenF (L.take q) = S at *
              have HS := Lib.hid hS
              clear e1 e2 e3 hsn hS
              by_cases hq1 : q = 0
              · subst hq1
                clear hx
                go_wp2
                go_quiet (fail)
                go_wp2
                go_roundw
                case rel => exact ⟨0 + 1, m6 + nq, by omega, rfl, by rw [HSN.out]; congr 1, by rw [HSN.out]; omega, rfl⟩
                case measure => simp [intOf]; omega
              · obtain ⟨p, rfl⟩ : ∃ p, q = p + 1 := ⟨q - 1, by omega⟩
                obtain ⟨y, hy⟩ : ∃ y, L[p]? = some y := ⟨_, List.getElem?_eq_getElem (by omega)⟩
                obtain ⟨g6', sv', hg6, _, f1, _, _⟩ := HF6.out.at_ hy
                injection hg6 with hg6
                injection hg6 with hg6
                subst hg6
                have f1' : ∀ q', (w6.drewN q').cell? ⟨g6, p * 2, none⟩ = some (.string ⟨y.1.toArray⟩) := fun _ => f1
                have hbl : Op.bytesLess y.1 x.1 = true := by rw [bytesLess_eq]; exact decide_eq_true (HSRT.out p y x hy hx)
                have hp0 : (0 : Int) ≤ p := by omega
                have hp1 : (p : Int) < L.length := by omega
                have hp2 : (0 : Int) < (p : Int) + 1 := by omega
                clear f1 hy hx hq1 hq0
                obtain ⟨x1, x2⟩ := x
                obtain ⟨y1, y2⟩ := y
                simp only at e1' e2' f1' hbl HSN hle2
                go_wp2
                go_quiet (fail)
                go_wp2
                go_roundw
                case rel => exact ⟨p + 1 + 1, m6 + nq, by omega, by go_num, by rw [HSN.out]; go_num, by rw [HSN.out]; omega, rfl⟩
                case measure => simp [intOf]; omega
            · obtain rfl : q = L.length := by omega
              rw [List.take_length]
              have M6m := Lib.hid (M6.out.drewN m6)
              go_wp2_with fail
              refine (used_any M6m.out.disk).mono ?_
              rintro e w7 ⟨rfl, hb7⟩
              rw [← HLF.out]
              have M7 := Lib.hid (M6m.out.later hb7)
              have d0 := (H.out.below M7.out.below).head HO.out
              have hleL : (L.length : Int) ≤ 64 := by omega
              clear hb7 hle hq hql
              by_cases h8 : o.what = 8
              · rw [h8] at d0
                clear h8
                go_wp2
                go_ret
                exact ⟨rfl, M7.out.below⟩
              · have b8 : (o.what == 8) = false := by simpa using h8
                have hro := HST.out.roomy h8 HM.out.disk.wf HRM.out
                have hfit : (lenF L : Int) ≤ R := by
                  have h1 := hro.fits
                  rw [HLF.out]
                  omega
                have HRO5 := Lib.hid hro
                clear h8 hro
                go_wp2
                go_roundw
                case rel => exact ⟨k + 1, s', F', by omega, by go_num, M7.out, HR5.out, HRO5.out⟩
                case measure => simp [intOf]; omega
      · go_wp2
        go_ret
        exact ⟨rfl, hM.below⟩
end Go.Proofs.Yteaeniopfbglnaa
