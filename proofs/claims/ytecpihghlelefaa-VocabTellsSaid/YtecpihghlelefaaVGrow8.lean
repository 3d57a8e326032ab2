/- A pair more. -/
import Derived.Test.YtecpihghlelefaaVGrow7
namespace Go.Proofs.Ytecpihghlelefaa
open Go.RowKit Go.Maps Go.WideMaps
set_option linter.unusedSimpArgs false

def pairErr (V : Voc) (a b : Int) : Int :=
  if freeB V a b = false then 53
  else if 16 < (bothT V a b).length then 52
  else if 512 ≤ V.mer.length ∨ (findT V.tok (bothT V a b) < 0 ∧ 512 ≤ V.tok.length) then 2
  else 0
def pairAdd (V : Voc) (a b : Int) : Voc :=
  if findT V.tok (bothT V a b) < 0 then ⟨V.tok ++ [bothT V a b], V.mer ++ [⟨a, b, V.tok.length⟩]⟩
  else ⟨V.tok, V.mer ++ [⟨a, b, findT V.tok (bothT V a b)⟩]⟩
theorem Own.trans {F : Nat → Prop} {w w1 w2 : World} (h1 : w.heap.size ≤ w1.heap.size) (h2 : w1.heap.size ≤ w2.heap.size) : ∀ i, Own (Own F w w1) w1 w2 i ↔ Own F w w2 i := fun i => by
  unfold Own
  constructor
  · rintro ((h | h) | h)
    · exact .inl h
    · exact .inr ⟨h.1, by omega⟩
    · exact .inr ⟨by omega, h.2⟩
  · rintro (h | h)
    · exact .inl (.inl h)
    · by_cases hi : i < w1.heap.size
      · exact .inl (.inr ⟨h.1, hi⟩)
      · exact .inr ⟨by omega, h.2⟩
theorem Grow.iff {w : World} {F F' : Nat → Prop} {b : Nat} {V : Voc} (h : Grow w F b V) (hF : ∀ i, F i ↔ F' i) : Grow w F' b V := by
  have e : F = F' := funext fun i => propext (hF i)
  rw [← e]; exact h
theorem find_fits {L : List Nm} (h : L.length ≤ 1048576) (s : Nm) : fits64 (findT L s) := by
  rcases findT_cases L s with ⟨h1, _⟩ | ⟨i, h1, h2, _⟩
  · rw [h1]; exact ⟨by omega, by omega⟩
  · have := (List.getElem?_eq_some_iff.1 h2).1
    rw [h1]; exact ⟨by omega, by omega⟩

set_option maxHeartbeats 8000000 in
set_option maxRecDepth 100000 in
theorem addPair_any (w : World) (F : Nat → Prop) (b : Nat) (V : Voc) (hG : Grow w F b V) (hsh : ShortT V) (hlt : V.tok.length ≤ 512) (hlm : V.mer.length ≤ 512) (x y : Int) (hx : fits64 x) (hy : fits64 y) :
    Calls Try.prog 22 #[at0 b, .agg #[.int .i64 x, .int .i64 y]] w fun e w' => e = .returned (.int .i64 (pairErr V x y)) ∧ Kept F w w' ∧ (pairErr V x y = 0 → ∃ F', Grow w' F' b (pairAdd V x y) ∧ ∀ i, F' i → Own F w w' i) := by
  obtain ⟨R, hR⟩ : ∃ R, R = pairErr V x y := ⟨_, rfl⟩
  rw [← hR]
  unfold pairErr at hR
  have HG := Lib.hid hG
  have HR := Lib.hid hR
  have HSH := Lib.hid hsh
  have HLT := Lib.hid hlt
  have HLM := Lib.hid hlm
  clear hG hR hsh
  have b1 : Below w.heap.size w (w.alloc (.cells #[.int .i64 x, .int .i64 y] 45)) := (Below.refl _ w).alloc (Nat.le_refl _) _
  obtain ⟨W1, hW1⟩ : ∃ W1, W1 = w.alloc (.cells #[.int .i64 x, .int .i64 y] 45) := ⟨_, rfl⟩
  have hpb : Blk W1 w.heap.size 45 #[.int .i64 x, .int .i64 y] := by rw [hW1]; exact Blk.new _ _ _
  rw [← hW1] at b1
  have m0 := hpb.cell 0
  have m1 := hpb.cell 1
  simp only [List.getElem?_toArray, List.getElem?_cons_zero, List.getElem?_cons_succ] at m0 m1
  have HW := Lib.hid hW1
  have HPB := Lib.hid hpb
  have HB1 := Lib.hid b1
  have HG1 := Lib.hid (HG.out.kept b1)
  clear hW1 hpb b1
  unfold at0
  go_enter Try.func22, Try.ntmps22
  go_wp2_with fail
  rw [← HW.out]
  go_wp2_with fail
  cases hf : freeB V x y with
  | false =>
    have HF := Lib.hid hf
    refine (isFree_is W1 F b V HG1.out x y hx hy HF.out).mono ?_
    rintro e w2 ⟨rfl, hb2⟩
    have HB2 := Lib.hid (below_then HB1.out hb2 HB1.out.size)
    have hfin : R = 53 := by rw [HR.out, if_pos HF.out]
    have HFIN := Lib.hid hfin
    clear hb2 hf hfin m0 m1
    go_wp2
    go_ret
    exact ⟨by rw [HFIN.out]; rfl, Kept.below HB2.out, fun h => by rw [HFIN.out] at h; omega⟩
  | true =>
    have HF := Lib.hid hf
    refine (isFree_is W1 F b V HG1.out x y hx hy HF.out).mono ?_
    rintro e w2 ⟨rfl, hb2⟩
    have HB2 := Lib.hid (below_then HB1.out hb2 HB1.out.size)
    have HP2 := Lib.hid (HPB.out.below hb2 HPB.out.lt)
    have HG2 := Lib.hid (HG1.out.kept hb2)
    have hB2 := HB2.out.size
    obtain ⟨i, j, s, t, hi, hj, hs, ht, hboth, -⟩ := free_idx hf
    rw [if_neg (by rw [hf]; simp), hboth] at HR
    have q0 := HP2.out.cell 0
    have q1 := HP2.out.cell 1
    simp only [List.getElem?_toArray, List.getElem?_cons_zero, List.getElem?_cons_succ] at q0 q1
    have hsl := HSH.out s (List.mem_of_getElem? hs)
    have htl := HSH.out t (List.mem_of_getElem? ht)
    have HS := Lib.hid hs
    have HT := Lib.hid ht
    have HBO := Lib.hid hboth
    have HSL := Lib.hid hsl
    have HTL := Lib.hid htl
    have HI := Lib.hid hi
    have HJ := Lib.hid hj
    clear hb2 hf hboth hs ht hsl htl m0 m1
    rw [hi] at q0
    rw [hj] at q1
    clear hi hj
    go_wp2_with fail
    refine (joined_any w2 F b V HG2.out i j s t HS.out HT.out (by have := HSL.out; omega) (by have := HSL.out; omega) (by have := HTL.out; omega)).mono ?_
    rintro e w3 ⟨v3, rfl, hO, hb3⟩
    obtain ⟨A3, c3, hv, hc3⟩ := own_cap hO
    subst hv
    have hn : (s ++ t).length = s.length + t.length := List.length_append
    obtain ⟨n, hnn⟩ : ∃ n, n = s.length + t.length := ⟨_, rfl⟩
    rw [← hnn] at hO hc3 hn ⊢
    have hn32 : n ≤ 32 := by have := HSL.out; have := HTL.out; omega
    obtain ⟨st, hst⟩ : ∃ st, st = s ++ t := ⟨_, rfl⟩
    rw [← hst] at hO hn
    rw [← hst, hn] at HR
    have I3 := Lib.hid (BytesIn.own hO (by unfold maxLen; omega))
    have HG3 := Lib.hid (HG2.out.kept hb3)
    have HB3 := Lib.hid (below_then HB2.out hb3 HB2.out.size)
    have HP3 := Lib.hid (HP2.out.below hb3 HP2.out.lt)
    have hTI : TokIn w3 F (.slice A3 n c3) st := by
      refine ⟨A3, c3, by rw [hn], by omega, by rw [hn]; exact I3.out, fun ad e h0 hf => ?_⟩
      have h1 := HG2.out.lt _ hf
      have h2 := (hO.lt ad.block (by rw [e]; rfl)).1
      omega
    have HTI := Lib.hid hTI
    have HBO2 := Lib.hid (HBO.out.trans hst.symm)
    have HN := Lib.hid hn
    clear hO hb3 hTI hst hnn hn q0 q1
    have hn0 : (0 : Int) ≤ (n : Int) := by omega
    by_cases h16 : 16 < n
    · have z16 : (16 : Int) < (n : Int) := by omega
      have hfin : R = 52 := by rw [HR.out, if_pos h16]
      have HFIN := Lib.hid hfin
      clear hfin
      go_wp2
      go_ret
      exact ⟨by rw [HFIN.out]; rfl, Kept.below HB3.out, fun h => by rw [HFIN.out] at h; omega⟩
    have z16 : ¬ (16 : Int) < (n : Int) := by omega
    rw [if_neg h16] at HR
    obtain ⟨fd, hfd⟩ : ∃ fd, fd = findT V.tok st := ⟨_, rfl⟩
    have hfb := find_fits (L := V.tok) (by have := HLT.out; omega) st
    rw [← hfd] at HR hfb
    obtain ⟨tv, mv, bt, bp, svs, DT, DP, h3⟩ := HG3.out
    obtain ⟨At, ct, rfl⟩ := own_slice h3.trow
    obtain ⟨Am, cm, rfl⟩ := own_slice h3.mrow
    have e0 : ∀ q, (w3.drewN q).cell? ⟨b, 0, none⟩ = some (.slice At V.tok.length ct) := fun q => by
      have := (h3.blk.drewN q).cell 0
      simpa using this
    have e1 : ∀ q, (w3.drewN q).cell? ⟨b, 1, none⟩ = some (.slice Am V.mer.length cm) := fun q => by
      have := (h3.blk.drewN q).cell 1
      simpa using this
    have e2 : ∀ q, (w3.drewN q).cell? ⟨b, 2, none⟩ = some (.map (some bt)) := fun q => by
      have := (h3.blk.drewN q).cell 2
      simpa using this
    have hlk : ∀ q, (Instr.lookup 53 (.map (some bt)) (.string ⟨st.toArray⟩) true).run Try.prog (w3.drewN q) = .ok (.tuple #[.int .i64 (atTok V.tok st), .bool (decide (0 ≤ fd))]) (w3.drewN q) := fun q => by
      rw [hfd]
      exact tok_look (w := w3.drewN q) (ownsMap_block h3.tmap rfl) h3.isT st (by rw [HN.out]; unfold maxLen; omega)
    have hcv : ∀ q, (convert 23 9 (.slice A3 n c3)).run Try.prog (w3.drewN q) = .ok (.string ⟨st.toArray⟩) (w3.drewN q) := fun q => str_of (I3.out.drewN q) c3
    have hti : ∀ q, TokIn (w3.drewN q) F (.slice A3 n c3) st := fun q => HTI.out.mono (G := fun _ => False) ((Kept.refl _ w3).drewN q) (fun _ h => h.elim) (fun _ h => .inl h)
    have hat : atTok V.tok st = if 0 ≤ fd then fd else 0 := by unfold atTok; rw [hfd]
    rw [hat] at hlk
    have HTQ := Lib.hid hti
    have HFD := Lib.hid hfd
    obtain ⟨tn, htn⟩ : ∃ tn, tn = V.tok.length := ⟨_, rfl⟩
    obtain ⟨mn, hmn⟩ : ∃ mn, mn = V.mer.length := ⟨_, rfl⟩
    rw [← htn] at e0 hlt HR
    rw [← hmn] at e1 hlm HR
    have HTN := Lib.hid htn
    have HMN := Lib.hid hmn
    clear h3 hti hat hfd htn hmn
    have hfull : ∀ W, Below w.heap.size w W → R = 2 → (Ending.returned (.int .i64 2) : Ending) = .returned (.int .i64 R) ∧ Kept F w W ∧ (R = 0 → ∃ F', Grow W F' b (pairAdd V x y) ∧ ∀ i, F' i → Own F w W i) := fun W hb h => ⟨by rw [h], Kept.below hb, fun h0 => by omega⟩
    have HFULL := Lib.hid hfull
    clear hfull
    by_cases hme : mn = 512
    · have d1 : ((mn : Int) == 512) = true := by simp; omega
      have hfin : R = 2 := by rw [HR.out, if_pos (.inl (by omega))]
      have HFIN := Lib.hid hfin
      clear hfin
      go_wp2_with fail
      go_quiet (fail)
      clear hlk hcv
      go_wp2
      all_goals
        go_ret
        exact HFULL.out _ (below_drewN HB3.out _) HFIN.out
    have d1 : ((mn : Int) == 512) = false := by simp; omega
    have HME := Lib.hid hme
    clear hme
    by_cases hfp : 0 ≤ fd
    · have dfp : decide (0 ≤ fd) = true := decide_eq_true hfp
      rw [if_pos hfp, dfp] at hlk
      have hfin : R = 0 := by rw [HR.out, if_neg (by have := HME.out; omega)]
      have HFIN := Lib.hid hfin
      have q0 := fun q => (HP3.out.drewN q).cell 0
      have q1 := fun q => (HP3.out.drewN q).cell 1
      simp only [List.getElem?_toArray, List.getElem?_cons_zero, List.getElem?_cons_succ] at q0 q1
      clear hfin dfp
      go_wp2_with fail
      go_quiet (fail)
      clear hlk hcv
      go_wp2_with fail
      refine (addMerge_any _ F b V (HG3.out.kept (below_drewN (Below.refl _ _) _)) ⟨x, y, fd⟩ ⟨hx, hy, hfb⟩ (by have := HLM.out; omega)).mono ?_
      rintro e w5 ⟨rfl, hg5, hk5⟩
      have HG5 := Lib.hid hg5
      have HK5 := Lib.hid hk5
      clear hg5 hk5
      go_wp2
      go_ret
      have hs3 := HB3.out.size
      refine ⟨by rw [HFIN.out]; rfl, ?_, fun _ => ?_⟩
      · exact ((Kept.below HB3.out).drewN _).trans HK5.out (fun i _ h => h)
      · have e : pairAdd V x y = ⟨V.tok, V.mer ++ [⟨x, y, fd⟩]⟩ := by
          unfold pairAdd
          rw [HBO2.out, ← HFD.out, if_neg (by omega)]
        rw [e]
        exact ⟨_, HG5.out, fun i hi => hi.imp id (fun h => ⟨Nat.le_trans hs3 h.1, h.2⟩)⟩
    have dfp : decide (0 ≤ fd) = false := decide_eq_false hfp
    rw [if_neg hfp, dfp] at hlk
    by_cases hte : tn = 512
    · have d2 : ((tn : Int) == 512) = true := by simp; omega
      have hfin : R = 2 := by rw [HR.out, if_pos (.inr (by omega))]
      have HFIN := Lib.hid hfin
      clear hfin dfp
      go_wp2_with fail
      go_quiet (fail)
      clear hlk hcv
      go_wp2
      go_ret
      exact HFULL.out _ (below_drewN HB3.out _) HFIN.out
    have d2 : ((tn : Int) == 512) = false := by simp; omega
    have hfin : R = 0 := by rw [HR.out, if_neg (by have := HME.out; omega)]
    have HFIN := Lib.hid hfin
    have hnew : findT V.tok st < 0 := by rw [← HFD.out]; omega
    have HNEW := Lib.hid hnew
    clear hfin dfp hnew
    go_wp2_with fail
    go_quiet (fail)
    clear hlk hcv
    go_wp2_with fail
    refine (addToken_any _ F b V (HG3.out.kept (below_drewN (Below.refl _ _) _)) A3 n c3 st (HTQ.out _) HNEW.out (by have := HLT.out; omega)).mono ?_
    rintro e w4 ⟨rfl, hg4, hk4⟩
    have hs3 := HB3.out.size
    have hs4 := hk4.size
    have hP4 : Blk w4 w.heap.size 45 #[.int .i64 x, .int .i64 y] := HP3.out.same (hk4.block _ HP3.out.lt (fun h => by have := HG.out.lt _ h; omega))
    have q0 := hP4.cell 0
    have q1 := hP4.cell 1
    simp only [List.getElem?_toArray, List.getElem?_cons_zero, List.getElem?_cons_succ] at q0 q1
    have HG4 := Lib.hid hg4
    have HK4 := Lib.hid hk4
    have htf : fits64 (V.tok.length : Int) := ⟨by omega, by have := HLT.out; omega⟩
    have HTF := Lib.hid htf
    clear hg4 hk4 hP4 e0 e1 e2 htf
    go_wp2_with fail
    refine (addMerge_any w4 _ b ⟨V.tok ++ [st], V.mer⟩ HG4.out ⟨x, y, (V.tok.length : Nat)⟩ ⟨hx, hy, HTF.out⟩ (by have := HLM.out; show V.mer.length < _; omega)).mono ?_
    rintro e w5 ⟨rfl, hg5, hk5⟩
    have HG5 := Lib.hid hg5
    have HK5 := Lib.hid hk5
    have hs5 := hk5.size
    clear hg5 hk5
    go_wp2
    go_ret
    have hs4' : w3.heap.size ≤ w4.heap.size := hs4
    refine ⟨by rw [HFIN.out]; rfl, ?_, fun _ => ?_⟩
    · refine (((Kept.below HB3.out).drewN _).trans HK4.out (fun i _ h => h)).trans HK5.out (fun i hi h => ?_)
      rcases h with h | h
      · exact h
      · exact absurd (show w3.heap.size ≤ i from h.1) (by omega)
    · have e : pairAdd V x y = ⟨V.tok ++ [st], V.mer ++ [⟨x, y, (V.tok.length : Nat)⟩]⟩ := by
        unfold pairAdd
        rw [HBO2.out, ← HFD.out, if_pos (by omega)]
      rw [e]
      refine ⟨_, HG5.out, fun i hi => ?_⟩
      rcases hi with (hi | hi) | hi
      · exact .inl hi
      · exact .inr ⟨Nat.le_trans hs3 hi.1, by have := hi.2; omega⟩
      · exact .inr ⟨by have := hi.1; omega, hi.2⟩
end Go.Proofs.Ytecpihghlelefaa
