/- DiskStays: what was synced is there behind any crash. -/
import Derived.Test.YteaeniopfbglnaaStaysMath
import Derived.Test.YteaeniopfbglnaaCut
namespace Go.Proofs.Yteaeniopfbglnaa
open Go.RowKit Go.Maps Go.WideMaps

/-- Between B and T nothing has turned; a disk outside it. -/
def Band (wf w : World) (B T : Nat) : Prop := ∀ g, B ≤ g → g < T → w.heap[g]? = wf.heap[g]?
def Out (F : Nat → Prop) (B T : Nat) : Prop := ∀ i, F i → i < B ∨ T ≤ i
theorem Band.kept {wf w w' : World} {B T : Nat} {F : Nat → Prop} (h : Band wf w B T) (hk : Kept F w w') (hF : Out F B T) (hT : T ≤ w.heap.size) : Band wf w' B T := fun g h1 h2 =>
  (hk.block g (by omega) (fun hf => by rcases hF g hf with h | h <;> omega)).trans (h g h1 h2)
theorem Band.below {wf w w' : World} {B T : Nat} (h : Band wf w B T) (hk : Below w.heap.size w w') (hT : T ≤ w.heap.size) : Band wf w' B T := fun g h1 h2 => (hk.block g (by omega)).trans (h g h1 h2)
theorem Out.more {F F' : Nat → Prop} {B T H : Nat} (h : Out F B T) (hF : ∀ i, F' i → F i ∨ H ≤ i) (hT : T ≤ H) : Out F' B T := fun i hi => by
  rcases hF i hi with h1 | h1
  · exact h i h1
  · exact .inr (by omega)
theorem Out.fresh {F : Nat → Prop} {B T : Nat} (h : ∀ i, F i → i < B) : Out F B T := fun i hi => .inl (h i hi)

theorem cut_eq {z x : Nm} {n : Nat} (h : z.take n = x) : (((⟨z.toArray⟩ : ByteArray).extract 0 n).toList == x) = true := by
  rw [ByteArray.toList_eq]
  simp [h]

set_option maxHeartbeats 16000000 in
set_option maxRecDepth 100000 in
theorem diskStays_any (w : World) (A : Option Addr) (n c : Nat) (l : List OpV) (h : OpsIn w A n l) (A' : Option Addr) (n' c' : Nat) (l' : List OpV) (h' : OpsIn w A' n' l') (acts : Int) (hacts : acts ≤ 9223372036854775807) (C : Option Addr) (kc cc : Nat) (cs : List Int) (hC : IntsIn w C kc cs) :
    Calls Try.prog 4 #[.slice A n c, .slice A' n' c', .agg #[.int .i64 acts, .slice C kc cc]] w fun e w' => e = .returned (.bool true) ∧ Below w.heap.size w w' := by
  have hn := h.len
  have hn' := h'.len
  have hbig := h.big
  have hbig' := h'.big
  have hn2 : n ≤ 1599289641265 := by omega
  have hn2' : n' ≤ 1599289641265 := by omega
  have hb0 : Below w.heap.size w (w.alloc (.cells #[.int .i64 acts, .slice C kc cc] 36)) := (Below.refl _ w).alloc (Nat.le_refl _) _
  have h0 := h.below hb0
  have h0' := h'.below hb0
  have hC0 := hC.below hb0
  have bx := Blk.new w 36 #[.int .i64 acts, .slice C kc cc]
  have HN := Lib.hid hn
  have HN' := Lib.hid hn'
  clear h h' hn hn' hbig hbig' hC
  go_enter Try.func4, Try.ntmps4
  go_wp2_with fail
  refine calls_at ?_
  intro w0 hw0
  rw [← hw0] at h0 h0' hC0 bx hb0
  clear hw0
  have hbl := bx.lt
  have H := Lib.hid h0
  have H' := Lib.hid h0'
  have HC := Lib.hid hC0
  have BX := Lib.hid bx
  clear h0 h0' hC0 bx
  refine (head_any w0).mono ?_
  rintro e w1 ⟨rfl, hb1⟩
  have hs1 := hb1.size
  go_wp2_with (go_at_call 30; refine (New_any _ _ (by decide)).mono ?_; rintro e w2 ⟨rfl, hD2, hb2⟩; have hb2' := hb1.trans (hb2.mono hs1); have M2 := Lib.hid (Mine.mk (w0 := w0) (w := w2) hD2 (fun i hi => by omega) hb2'); have hs2 := hb2'.size; have HB2 := Lib.hid hb2'; clear hD2 hb2 hb2'; unfold at0; generalize w1.heap.size + 2 = b at M2)
  refine (Great_any (H.out.below HB2.out) _).mono ?_
  rintro e w3 ⟨g, m3, rfl, rfl, hg⟩
  cases g with
  | true =>
    clear hg
    go_wp2
    go_ret
    exact ⟨rfl, below_q (hb0.trans (M2.out.below.mono (by omega))) m3⟩
  | false =>
    have HG := Lib.hid (hg rfl)
    clear hg
    go_wp2_with fail
    refine (Great_any ((H'.out.below HB2.out).below (below_q (Below.refl _ _) m3)) _).mono ?_
    rintro e w3 ⟨g, m3', rfl, rfl, hg⟩
    cases g with
    | true =>
      clear hg
      go_wp2
      go_ret
      exact ⟨rfl, below_q (hb0.trans (M2.out.below.mono (by omega))) (m3 + m3')⟩
    | false =>
      have HG' := Lib.hid (hg rfl)
      clear hg
      have M3 := Lib.hid (M2.out.drewN (m3 + m3'))
      go_wp2
      go_loopw [9] (fun i wr => ∃ (k : Nat) (s : St) (F : Nat → Prop), k ≤ n ∧ i = .int .i64 k ∧ Mine w0 wr F b s ∧ Runs s k ∧ Live s) (fun i _ => n - (intOf i).toNat)
      case atStart => exact ⟨0, _, _, Nat.zero_le _, rfl, M3.out, ⟨rfl, Nat.le_refl _, Nat.le_refl _⟩, rfl, rfl⟩
      case round =>
        obtain ⟨k, s, F, hk, rfl, hM, hR, hLv⟩ := hrel
        by_cases hlt : k < n
        · have HL := HN.out
          cases A with
          | none => have := H.out.nil rfl; omega
          | some ad =>
            obtain ⟨o, ho⟩ : ∃ o, l[k]? = some o := ⟨_, List.getElem?_eq_getElem (by omega)⟩
            have hol := List.mem_of_getElem? ho
            have hin := H.out.op o hol
            have hac := hR.acts
            have hch := hR.chs
            have hmid := hR.mid
            have hll : k ≤ 300 := by have := (HG.out).1; omega
            have c0 := (H.out.below hM.below).head ho
            have c1 := (H.out.below hM.below).field ho 0 rfl
            have c2 := (H.out.below hM.below).field ho 1 rfl
            have c3 := (H.out.below hM.below).field ho 2 rfl
            have c4 := (H.out.below hM.below).field ho 3 rfl
            have c5 := (H.out.below hM.below).field ho 4 rfl
            have HM := Lib.hid hM
            have HR := Lib.hid hR
            have HIN := Lib.hid hin
            have HMID := Lib.hid hmid
            have HLV := Lib.hid hLv
            clear hM hR ho hol hin hmid HL hLv
            obtain ⟨blk, off, sp⟩ := ad
            by_cases hw : o.what = 7 ∨ o.what = 8
            · have HR5 := Lib.hid (show Runs s (k + 1) from ⟨HR.out.mid, Nat.le_succ_of_le HR.out.acts, Nat.le_succ_of_le HR.out.chs⟩)
              clear c1 c2 c3 c4 c5
              have hw7 : (o.what != 7) = true ∧ (o.what != 8) = false ∨ (o.what != 7) = false := by
                rcases hw with h | h
                · exact .inr (by simp [h])
                · exact .inl (by simp [h])
              clear hw
              rcases hw7 with ⟨t1, t2⟩ | t1
              all_goals
                go_wp2
                go_roundw
                case rel => exact ⟨k + 1, s, F, by omega, by go_num, HM.out, HR5.out, HLV.out⟩
                case measure => simp [intOf]; omega
            · have t1 : (o.what != 7) = true := by simp; omega
              have t2 : (o.what != 8) = true := by simp; omega
              go_wp2_with fail
              refine (does_any HM.out.disk HMID.out (by omega) (by omega) o (HIN.out.below HM.out.below) (HM.out.awayB HIN.out) (HM.out.awayC HIN.out)).mono ?_
              rintro e w5 ⟨r, s', F', rfl, hst, hD5, hk5, hF5⟩
              have M5 := Lib.hid (HM.out.crash hD5 hF5 hk5)
              have HR5 := Lib.hid (hst.runs HR.out)
              have HL5 := Lib.hid (HLV.out.step78 hst (by omega) (by omega))
              clear hst hD5 hk5 hF5 c0 c1 c2 c3 c4 c5 hw
              go_wp2
              go_roundw
              case rel => exact ⟨k + 1, s', F', by omega, by go_num, M5.out, HR5.out, HL5.out⟩
              case measure => simp [intOf]; omega
        · obtain rfl : k = n := by omega
          have hll : k ≤ 300 := by have := (HG.out).1; have := HN.out; omega
          have hsy : Syncing s.now s.dat 0 s := ⟨hLv, ⟨hR.mid, by have := hR.acts; omega, by have := hR.chs; omega⟩, rfl, rfl, by simp⟩
          have hpw : ∀ p ∈ s.now, dget s.now p.1 = some p.2 := by
            obtain ⟨bn, bo, cv, cls, fv, hd⟩ := hM.disk
            exact dget_of_mem (pairs_ne (dir_sorted hd.now))
          have hnl : ∀ p ∈ s.now, p.1.length ≤ maxLen := by
            obtain ⟨bn, bo, cv, cls, fv, hd⟩ := hM.disk
            exact dir_names_len hd.now
          have hl64 : s.now.length ≤ 64 := hM.disk.wf.nnow
          have HPW := Lib.hid hpw
          have HNL := Lib.hid hnl
          have HSY := Lib.hid hsy
          have HM := Lib.hid hM
          clear hM hR hLv hsy hpw hnl
          go_wp2_with fail
          refine (Names_any HM.out.disk).mono ?_
          rintro e w4 ⟨v4, rfl, hr4, hb4⟩
          have hO4 := Out.fresh (T := w4.heap.size) HM.out.disk.size
          have hr4' : w4.ownsRow wr.heap.size 9 1 v4 s.now.length ((nms s.now).map encStr) := by
            have e2 : (nms s.now).map encStr = s.now.map fun p => encStr p.1 := by simp [nms, Function.comp_def]
            rw [e2]; exact hr4
          obtain ⟨A4, c4, rfl⟩ := own_slice hr4
          have M4 := Lib.hid (HM.out.later hb4)
          have HR4 := Lib.hid hr4'
          have HO4 := Lib.hid hO4
          generalize hD : s.now = D at *
          generalize hdt : s.dat = dat at *
          clear hr4 hb4 hr4' hO4 hD hdt
          generalize wr.heap.size = B4 at *
          go_wp2
          go_loopw [11] (fun i wr => ∃ (q : Nat) (s : St) (F : Nat → Prop), q ≤ D.length ∧ i = .int .i64 q ∧ Mine w0 wr F b s ∧ Syncing D dat q s ∧ Band w4 wr B4 w4.heap.size ∧ Out F B4 w4.heap.size ∧ w4.heap.size ≤ wr.heap.size) (fun i _ => D.length - (intOf i).toNat)
          case atStart => exact ⟨0, _, _, Nat.zero_le _, rfl, M4.out, HSY.out, fun _ _ _ => rfl, HO4.out, Nat.le_refl _⟩
          case round =>
            obtain ⟨q, s5, F5, hq, rfl, hM5, hS5, hBd, hOt, hsz⟩ := hrel
            by_cases hql : q < D.length
            · have hp : D[q]? = some D[q] := List.getElem?_eq_getElem hql
              have hpm : D[q] ∈ D := List.getElem_mem hql
              have hr5 := ownsRow_block HR4.out (w' := wr) fun g hg => hBd g (HR4.out.lt g hg).1 (HR4.out.lt g hg).2
              obtain ⟨g4, c4', hv4, e1⟩ := str_at hr5 (q := q) (x := D[q].1) (by simp [nms, hp])
              injection hv4 with hA4 _ hc4
              subst hA4 hc4
              have hnm := HNL.out _ hpm
              have hdg := HPW.out _ hpm
              have hac : s5.acts < 1099511627776 := by have := hS5.runs.acts; omega
              generalize D[q] = p at *
              have HM5 := Lib.hid hM5
              have HS5 := Lib.hid hS5
              have HBD := Lib.hid hBd
              have HOT := Lib.hid hOt
              have HP := Lib.hid hp
              have HDG := Lib.hid hdg
              clear hM5 hS5 hBd hOt hp hdg hr5 hpm
              go_wp2_with fail
              refine (Sync_any HM5.out.disk hac ⟨p.1.toArray⟩ (by show p.1.toArray.size ≤ _; simpa using hnm)).mono ?_
              rintro e w6 ⟨r6, s6, F6, rfl, hT6, hD6, hk6, hF6⟩
              have M6 := Lib.hid (HM5.out.crash hD6 hF6 hk6)
              have S6 := Lib.hid (HS5.out.next HP.out HDG.out hT6)
              have B6 := Lib.hid (HBD.out.kept hk6 HOT.out hsz)
              have O6 := Lib.hid (HOT.out.more hF6 hsz)
              have hs6 := hk6.size
              clear hT6 hD6 hk6 hF6
              go_wp2
              go_roundw
              case rel => exact ⟨q + 1, s6, F6, by omega, by go_num, M6.out, S6.out, B6.out, O6.out, by omega⟩
              case measure => simp [intOf]; omega
            · obtain rfl : q = D.length := by omega
              have HM5 := Lib.hid hM5
              have HS5 := Lib.hid hS5
              have hac : s5.acts < 1099511627776 := by have := hS5.runs.acts; omega
              clear hM5 hS5 hBd hOt
              go_wp2_with fail
              refine (SyncDir_any HM5.out.disk hac).mono ?_
              rintro e w6 ⟨r6, s6, F6, rfl, hT6, hD6, hk6, hF6⟩
              have M6 := Lib.hid (HM5.out.crash hD6 hF6 hk6)
              obtain ⟨hK6, hfl6⟩ := HS5.out.dir (Nat.le_refl _) hT6
              have K6 := Lib.hid (hK6.more (k' := 400) (by omega))
              clear hT6 hD6 hk6 hF6 hK6
              go_wp2_with fail
              refine (Files_any M6.out.disk).mono ?_
              rintro e w7 ⟨v7, rfl, hf7, hb7⟩
              rw [hfl6] at hf7
              obtain ⟨A7, c7, rfl⟩ := hf7.slice
              have hO7 := Out.fresh (T := w7.heap.size) M6.out.disk.size
              have M7 := Lib.hid (M6.out.later hb7)
              have HF7 := Lib.hid hf7
              have HO7 := Lib.hid hO7
              have hll7 : (D.map fun p => (p.1, dat p.2)).length = D.length := by simp
              rw [hll7]
              clear hfl6 hf7 hb7 hO7 hll7
              generalize w6.heap.size = B7 at *
              go_wp2
              go_loopw [13] (fun i wr => ∃ (k : Nat) (s : St) (F : Nat → Prop), k ≤ n' ∧ i = .int .i64 k ∧ Mine w0 wr F b s ∧ Kept0 D dat (400 + k) s ∧ Band w7 wr B7 w7.heap.size ∧ Out F B7 w7.heap.size ∧ w7.heap.size ≤ wr.heap.size) (fun i _ => n' - (intOf i).toNat)
              case atStart => exact ⟨0, _, _, Nat.zero_le _, rfl, M7.out, K6.out, fun _ _ _ => rfl, HO7.out, Nat.le_refl _⟩
              case round =>
                obtain ⟨j, s8, F8, hj, rfl, hM8, hK8, hBd8, hOt8, hsz8⟩ := hrel
                by_cases hjl : j < n'
                · have HL' := HN'.out
                  cases A' with
                  | none => have := H'.out.nil rfl; omega
                  | some ad =>
                    obtain ⟨o, ho⟩ : ∃ o, l'[j]? = some o := ⟨_, List.getElem?_eq_getElem (by omega)⟩
                    have hin := H'.out.op o (List.mem_of_getElem? ho)
                    have hac := hK8.runs.acts
                    have hch := hK8.runs.chs
                    have hmid := hK8.runs.mid
                    have hll' : j ≤ 300 := by have := (HG'.out).1; omega
                    have c0 := (H'.out.below hM8.below).head ho
                    have c1 := (H'.out.below hM8.below).field ho 0 rfl
                    have c2 := (H'.out.below hM8.below).field ho 1 rfl
                    have c3 := (H'.out.below hM8.below).field ho 2 rfl
                    have c4 := (H'.out.below hM8.below).field ho 3 rfl
                    have c5 := (H'.out.below hM8.below).field ho 4 rfl
                    have HM8 := Lib.hid hM8
                    have HK8 := Lib.hid hK8
                    have HBD8 := Lib.hid hBd8
                    have HOT8 := Lib.hid hOt8
                    have HIN := Lib.hid hin
                    have HMID := Lib.hid hmid
                    clear hM8 hK8 hBd8 hOt8 ho hin hmid HL'
                    obtain ⟨blk, off, sp⟩ := ad
                    by_cases hw : o.what = 1 ∨ o.what = 2 ∨ o.what = 3
                    · have ht : (o.what == 1) = true ∨ ((o.what == 1) = false ∧ (o.what == 2) = true) ∨ ((o.what == 1) = false ∧ (o.what == 2) = false ∧ (o.what == 3) = true) := by
                        rcases hw with h | h | h
                        · exact .inl (by simp [h])
                        · exact .inr (.inl (by simp [h]))
                        · exact .inr (.inr (by simp [h]))
                      have HW := Lib.hid hw
                      clear hw
                      rcases ht with t1 | ⟨t1, t2⟩ | ⟨t1, t2, t3⟩
                      all_goals
                        go_wp2_with fail
                        refine (does_any HM8.out.disk HMID.out (by omega) (by omega) o (HIN.out.below HM8.out.below) (HM8.out.awayB HIN.out) (HM8.out.awayC HIN.out)).mono ?_
                        rintro e w9 ⟨r9, s9, F9, rfl, hst, hD9, hk9, hF9⟩
                        have M9 := Lib.hid (HM8.out.crash hD9 hF9 hk9)
                        have K9 := Lib.hid (HK8.out.step HW.out HM8.out.disk.wf hst)
                        have B9 := Lib.hid (HBD8.out.kept hk9 HOT8.out hsz8)
                        have O9 := Lib.hid (HOT8.out.more hF9 hsz8)
                        have hs9 := hk9.size
                        clear hst hD9 hk9 hF9 c0 c1 c2 c3 c4 c5
                        go_wp2
                        go_roundw
                        case rel => exact ⟨j + 1, s9, F9, by omega, by go_num, M9.out, K9.out, B9.out, O9.out, by omega⟩
                        case measure => simp [intOf]; omega
                    · have t1 : (o.what == 1) = false := by simp; omega
                      have t2 : (o.what == 2) = false := by simp; omega
                      have t3 : (o.what == 3) = false := by simp; omega
                      have K9 := Lib.hid (HK8.out.more (Nat.le_succ (400 + j)))
                      clear hw c1 c2 c3 c4 c5
                      go_wp2
                      go_roundw
                      case rel => exact ⟨j + 1, s8, F8, by omega, by go_num, HM8.out, K9.out, HBD8.out, HOT8.out, hsz8⟩
                      case measure => simp [intOf]; omega
                · obtain rfl : j = n' := by omega
                  have hll' : j ≤ 300 := by have := (HG'.out).1; have := HN'.out; omega
                  have hcl : s8.chs.length < 1099511627776 := by have := hK8.runs.chs; omega
                  have hF8 := hM8.disk.size
                  have hwf8 := hM8.disk.wf
                  have hfl8 : filesOf s8 = D.map fun p => (p.1, s8.dat p.2) := by unfold filesOf; rw [hK8.now]
                  have hcr := hK8.crashed hwf8 acts cs
                  have hflc : filesOf (s8.crashed acts cs) = D.map fun p => (p.1, (s8.crashed acts cs).dat p.2) := by unfold filesOf; rw [hcr.1]
                  have HCR := Lib.hid hcr.2
                  have HM8 := Lib.hid hM8
                  have HBD8 := Lib.hid hBd8
                  have HOT8 := Lib.hid hOt8
                  have HFL8 := Lib.hid hfl8
                  have HFLC := Lib.hid hflc
                  clear hM8 hK8 hBd8 hOt8 hwf8 hfl8 hflc hcr
                  go_wp2_with fail
                  refine (Files_any HM8.out.disk).mono ?_
                  rintro e w10 ⟨v10, rfl, hf10, hb10⟩
                  rw [HFL8.out] at hf10
                  obtain ⟨A10, c10, rfl⟩ := hf10.slice
                  have hll10 : (D.map fun p => (p.1, s8.dat p.2)).length = D.length := by simp
                  rw [hll10] at hf10 ⊢
                  have M10 := Lib.hid (HM8.out.later hb10)
                  have B10 := Lib.hid (HBD8.out.below hb10 hsz8)
                  have HF10 := Lib.hid hf10
                  have hs10 := hb10.size
                  have x0 := (BX.out.below M10.out.below hbl).cell 0
                  have x1 := (BX.out.below M10.out.below hbl).cell 1
                  simp at x0 x1
                  clear hf10 hb10 hll10
                  go_wp2_with fail
                  have hC10 := HC.out.below M10.out.below
                  refine (Crash_any M10.out.disk hcl acts hacts C kc cc cs hC10.2.1 (fun ad e h0 => ⟨hC10.2.2.2 ad e h0, M10.out.away HC.out.2.2.2 ad e h0⟩) hC10.2.2.1).mono ?_
                  rintro e w11 ⟨rfl, ⟨F11, hD11, hF11⟩, hk11⟩
                  have M11 := Lib.hid (M10.out.crash hD11 hF11 hk11)
                  have B11 := Lib.hid (B10.out.kept hk11 HOT8.out (by omega))
                  have HF11 := Lib.hid (HF10.out.kept hk11 hF8)
                  have hs11 := hk11.size
                  clear hD11 hF11 hk11 x0 x1 hC10
                  go_wp2_with fail
                  refine (Files_any M11.out.disk).mono ?_
                  rintro e w12 ⟨v12, rfl, hf12, hb12⟩
                  rw [HFLC.out] at hf12
                  obtain ⟨A12, c12, rfl⟩ := hf12.slice
                  have hll12 : (D.map fun p => (p.1, (s8.crashed acts cs).dat p.2)).length = D.length := by simp
                  rw [hll12] at hf12 ⊢
                  have BL12 := Lib.hid (M11.out.below.trans (hb12.mono M11.out.below.size))
                  have hb7 := B11.out.below hb12 (by omega)
                  have hf7 := HF7.out.frame hb7
                  have hll7 : (D.map fun p => (p.1, dat p.2)).length = D.length := by simp
                  have F7 := Lib.hid hf7
                  have F10 := Lib.hid (HF11.out.below hb12)
                  have F12 := Lib.hid hf12
                  clear hf12 hb12 hll12 hb7 hf7 hll7
                  generalize (s8.crashed acts cs).dat = cdat at *
                  go_wp2
                  go_loopw [16] (fun i wr => ∃ q m : Nat, q ≤ D.length ∧ i = .int .i64 q ∧ wr = w12.drewN m) (fun i _ => D.length - (intOf i).toNat)
                  case atStart => exact ⟨0, 0, Nat.zero_le _, rfl, rfl⟩
                  case round =>
                    obtain ⟨q, m, hq, rfl, rfl⟩ := hrel
                    by_cases hql : q < D.length
                    · have hp : D[q]? = some D[q] := List.getElem?_eq_getElem hql
                      have hpm : D[q] ∈ D := List.getElem_mem hql
                      obtain ⟨ha, hb⟩ := HCR.out _ hpm
                      generalize D[q] = p at *
                      obtain ⟨g7, sv7, hA7, -, a1, a2, a3⟩ := F7.out.at_ (i := q) (x := (p.1, dat p.2)) (by rw [List.getElem?_map, hp]; rfl)
                      obtain ⟨g10, sv10, hA10, -, b1, b2, b3⟩ := F10.out.at_ (i := q) (x := (p.1, s8.dat p.2)) (by rw [List.getElem?_map, hp]; rfl)
                      obtain ⟨g12, sv12, hA12, -, d1, d2, d3⟩ := F12.out.at_ (i := q) (x := (p.1, cdat p.2)) (by rw [List.getElem?_map, hp]; rfl)
                      subst hA7 hA10 hA12
                      have a1' : ∀ q', (w12.drewN q').cell? ⟨g7, q * 2, none⟩ = some (.string ⟨p.1.toArray⟩) := fun _ => a1
                      have a2' : ∀ q', (w12.drewN q').cell? ⟨g7, q * 2 + 1, none⟩ = some sv7 := fun _ => a2
                      have b2' : ∀ q', (w12.drewN q').cell? ⟨g10, q * 2 + 1, none⟩ = some sv10 := fun _ => b2
                      have d1' : ∀ q', (w12.drewN q').cell? ⟨g12, q * 2, none⟩ = some (.string ⟨p.1.toArray⟩) := fun _ => d1
                      have d2' : ∀ q', (w12.drewN q').cell? ⟨g12, q * 2 + 1, none⟩ = some sv12 := fun _ => d2
                      have cva := fun q' => string_of_row (w := w12.drewN q') a3
                      have cvb := fun q' => string_of_row (w := w12.drewN q') b3
                      have cvd := fun q' => string_of_row (w := w12.drewN q') d3
                      have l1 := ha.length_le
                      have l2 := hb.length_le
                      have t1 : (cdat p.2).take (dat p.2).length = dat p.2 := (List.prefix_iff_eq_take.1 ha).symm
                      have t2 : (s8.dat p.2).take (cdat p.2).length = cdat p.2 := (List.prefix_iff_eq_take.1 hb).symm
                      have hq0 : (0 : Int) ≤ q := by omega
                      have hql' : (q : Int) < D.length := by omega
                      have l1' : ((dat p.2).length : Int) ≤ (cdat p.2).length := by omega
                      have l2' : ((cdat p.2).length : Int) ≤ (s8.dat p.2).length := by omega
                      obtain ⟨p1, p2⟩ := p
                      simp only at a1' d1' cva cvb cvd l1 l2 t1 t2 l1' l2'
                      generalize dat p2 = va at *
                      generalize cdat p2 = vb at *
                      generalize s8.dat p2 = vz at *
                      have x1 : (((⟨vb.toArray⟩ : ByteArray).extract 0 va.length).toList == va) = true := cut_eq t1
                      have x2 : (((⟨vz.toArray⟩ : ByteArray).extract 0 vb.length).toList == vb) = true := cut_eq t2
                      have y1 : decide (vb.length < va.length) = false := decide_eq_false (by omega)
                      have y2 : decide (vz.length < vb.length) = false := decide_eq_false (by omega)
                      clear a1 a2 a3 b1 b2 b3 d1 d2 d3 ha hb hp hpm t1 t2 l1 l2
                      go_wp2
                      go_quiet (fail)
                      go_wp2
                      go_roundw
                      case rel => exact ⟨q + 1, m + nq, by omega, by go_num, rfl⟩
                      case measure => simp [intOf]; omega
                    · go_wp2
                      go_ret
                      exact ⟨rfl, below_q (hb0.trans (BL12.out.mono (by omega))) m⟩
end Go.Proofs.Yteaeniopfbglnaa
