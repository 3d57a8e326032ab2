import Derived.Test.YthcjikpabpgpfaaGreatZp0
import Derived.Test.YthcjikpabpgpfaaGreatZp22
import Derived.Test.YthcjikpabpgpfaaGreatZp6
import Derived.Test.YthcjikpabpgpfaaGreatZp11
import Derived.Test.YthcjikpabpgpfaaGreatZp5
import Derived.Test.YthcjikpabpgpfaaGreatZp9
import Derived.Deep.QuietTactic
import Derived.BigQuiet
import Derived.Laws.StructEq
import Derived.Deep.RegionHeld3
import Derived.Deep.DeepCutAuto
set_option linter.unusedSimpArgs false
set_option maxHeartbeats 16000000
set_option maxRecDepth 100000
namespace Go.Proofs.YthcjikpabpgpfaaGreat
theorem lastT_app (T : List (Int × List Pst)) (x : Int × List Pst) : lastT (T ++ [x]) = x.1 := by
 unfold lastT
 rw [if_neg (by simp), List.length_append, List.length_singleton, Nat.add_sub_cancel, List.getD_eq_getElem?_getD, List.getElem?_append_right (Nat.le_refl _), Nat.sub_self]
 rfl
theorem termsG_wf {l : List Nm} {d : Nat} : ∀ {i : Nat} {T : List (Int × List Pst)}, termsG l d i = some T → (∀ x ∈ T, (0 ≤ x.1 ∧ x.1 ≤ 511) ∧ x.1 ≤ lastT T ∧ ValidP x.2 ∧ 0 < x.2.length) ∧ (T.map Prod.fst).Pairwise (· < ·)
 | 0, T, h => by
  simp only [termsG, Option.some.injEq] at h
  subst h
  simp
 | i + 1, T, h => by
  rw [termsG] at h
  split at h
  ·cases h
  ·rename_i T0 h0
   obtain ⟨h1, h2⟩ := termsG_wf h0
   split at h
   ·cases h
   ·rename_i hb
    simp only [Option.some.injEq] at h
    subst h
    obtain ⟨f, hf⟩ : ∃ f, f = l.getD (1 + d + i) [] := ⟨_, rfl⟩
    rw [← hf] at hb ⊢
    have hlast : lastT T0 < termT f := by
     rcases Int.lt_or_le (lastT T0) (termT f) with h3 | h3
     ·exact h3
     ·exact absurd (show termBad f T0 d from .inr (.inr (.inl h3))) hb
    have hok : (termP f).2 = 0 := Classical.byContradiction fun h3 => hb (.inr (.inl h3))
    have hpos : 0 < (termP f).1.length := Nat.pos_of_ne_zero fun h3 => hb (.inr (.inr (.inr (.inl h3))))
    have hval : ValidP (termP f).1 := (check_ok getP_fit).1 (getP_some (b := (termR f).1) hok).1
    have htok := rInt_in ⟨f, 0, 0⟩ (m := 511) (by omega)
    refine ⟨fun x hx => ?_, ?_⟩
    ·rw [lastT_app]
     rcases List.mem_append.1 hx with hx | hx
     ·obtain ⟨q1, q2, q3, q4⟩ := h1 x hx
      exact ⟨q1, by simp only; omega, q3, q4⟩
     ·rw [List.mem_singleton.1 hx]
      exact ⟨htok, Int.le_refl _, hval, hpos⟩
    ·rw [List.map_append, List.pairwise_append]
     refine ⟨h2, by simp, fun a ha b hb2 => ?_⟩
     obtain ⟨x, hx, rfl⟩ := List.mem_map.1 ha
     simp at hb2
     subst hb2
     have := (h1 x hx).2.1
     omega
theorem segWF_of {b : Nm} {D : List (Nm × Nm)} {T : List (Int × List Pst)} (h : openR b = some (D, T)) : SegWF D T := by
 unfold openR at h
 split at h
 ·cases h
 ·split at h
  ·cases h
  ·split at h
   ·cases h
   ·rename_i D0 hD
    split at h
    ·rename_i hR
     obtain ⟨T0, hT, e⟩ := Option.map_eq_some_iff.1 h
     simp only [Prod.mk.injEq] at e
     obtain ⟨rfl, rfl⟩ := e
     obtain ⟨h1, h2⟩ := termsG_wf hT
     exact ⟨hR, h2, fun x hx => (h1 x hx).1, fun x hx => (h1 x hx).2.2⟩
    ·cases h
end Go.Proofs.YthcjikpabpgpfaaGreat
namespace Go.Proofs.YthcjikpabpgpfaaGreat
open Go.RowKit Go.Maps Go.WideMaps
def PostsTo (w : World) (F : Nat → Prop) (l : List Pst) (e : Ending) (w' : World) : Prop := ∃ A c, e = .returned (.slice A l.length c) ∧ PostsSee w' A l.length l ∧ l.length ≤ c ∧ Kept F w w'
theorem sgPosts_any {K : World → (Nat → Prop) → Nat → CSt → Prop} (hK : CurW K) {w : World} {F : Nat → Prop} {b : Nat} {l : List Pst} (hk : K w F b (cStart l)) (hV : ValidP l) : Calls Tryz.prog 23 #[.pointer (some ⟨b, 0, none⟩)] w (PostsTo w F l) := by
 obtain ⟨i2, hi2, hx0, hx1, hx2⟩ := info_parts postInfo
 have HK := Lib.hid hK
 have HS := Lib.hid hk
 have hfew := hV.few
 have HW0 : Hid (CWF (cStart l)) := Lib.hid (CWF.start hV.few fun x hx => ⟨hV.some x hx, hV.spots x hx⟩)
 have HDOC := Lib.hid hV.docs
 obtain ⟨n, hn⟩ : ∃ n, n = l.length := ⟨_, rfl⟩
 have HN := Lib.hid hn
 rw [← hn] at hfew
 have hep := fun w p => (cursNil w p).1
 clear hK hk hV hn
 go_enter Tryz.func23, Tryz.ntmps23
 go_wp2
 clear hep
 go_loopw [3, 4] (fun v iv wr => ∃ (i : Nat) (F' G : Nat → Prop) (s : CSt), i ≤ n ∧ iv = .int .i64 i ∧ K wr F' b s ∧ CWF s ∧ s.l = l ∧ s.at_ = i ∧ PostsG wr G v (l.take i) ∧ Kept F w wr ∧ (∀ j, F' j → F j ∨ w.heap.size ≤ j) ∧ ∀ j, G j → w.heap.size ≤ j ∧ j < wr.heap.size ∧ ¬ F' j) (fun _ iv _ => n - (intOf iv).toNat)
 case atStart => exact ⟨0, F, fun _ => False, cStart l, by omega, rfl, HS.out, HW0.out, (cStand_l _).1, (cStand_l _).2, PostsG.nil _ _, Kept.refl _ _, fun j h => .inl h, fun j h => h.elim⟩
 case round =>
  obtain ⟨i, F', G, s, hi, rfl, hks, hws, hsl, hsa, hO, hkp, hF, hG⟩ := hrel
  have HKS := Lib.hid hks
  have HWS := Lib.hid hws
  have HO := Lib.hid hO
  have HKP := Lib.hid hkp
  have HF := Lib.hid hF
  have HG := Lib.hid hG
  have HSL := Lib.hid hsl
  have HSA := Lib.hid hsa
  obtain ⟨Av, cv, hv, hcv⟩ := hO.slice
  have htk : (l.take i).length = i := by rw [List.length_take, ← HN.out]; omega
  rw [htk] at hv hcv
  subst hv
  have hd1 : decide ((i : Int) < 5000) = true := by simp; omega
  have HDC := Lib.hid (HK.out.doc hks hws)
  clear hks hws hO hkp hF hG hsl hsa htk
  rcases Nat.lt_or_ge i n with hlt | hge
  ·have hin : cIn s = true := by unfold cIn; rw [HSL.out, HSA.out, ← HN.out]; simpa using hlt
   obtain ⟨x, hx⟩ : ∃ x, x = pAt l i := ⟨_, rfl⟩
   have hget : l[i]? = some x := by
    rw [hx]
    unfold pAt
    rw [List.getD_eq_getElem?_getD, List.getElem?_eq_getElem (by rw [← HN.out]; exact hlt)]
    rfl
   have hcd : cDoc s = x.1 := by unfold cDoc; rw [HSL.out, HSA.out, if_pos (by rw [← HN.out]; exact hlt), hx]
   have hcs : cSpots s = x.2 := by unfold cSpots; rw [HSL.out, HSA.out, if_pos (by rw [← HN.out]; exact hlt), hx]
   have hnl : (cNext s).l = l ∧ (cNext s).at_ = i + 1 := by
    unfold cNext
    rw [(cStand_l _).1, (cStand_l _).2, if_pos (by rw [HSL.out, HSA.out, ← HN.out]; exact hlt)]
    exact ⟨HSL.out, by simp [HSA.out]⟩
   have hxd := HDOC.out x (List.mem_of_getElem? hget)
   have HTK : Hid (l.take (i + 1) = l.take i ++ [(x.1, x.2)]) := Lib.hid (by rw [List.take_add_one, hget]; rfl)
   have HNL := Lib.hid hnl
   rw [hin, hcd] at HDC
   have HCS := Lib.hid hcs
   have hw5 : IntKind.i64.wrap ((i : Int) + 1) = (i : Int) + 1 := IntWalk.i64_in _ (by omega)
   obtain ⟨sd, hsd⟩ : ∃ d, d = x.1 := ⟨_, rfl⟩
   obtain ⟨sp, hsp⟩ : ∃ d, d = x.2 := ⟨_, rfl⟩
   rw [← hsd] at HDC HTK hxd
   rw [← hsp] at HCS HTK
   clear hin hx hget hcd hcs hnl hsd hsp
   go_wp2_with fail
   refine HDC.out.mono ?_
   rintro e w1 ⟨rfl, hb1⟩
   have HB1 := Lib.hid hb1
   have HSP : Hid (Calls Tryz.prog 27 #[.pointer (some ⟨b, 0, none⟩)] w1 (SpotsNew w1 sp)) := Lib.hid (by
    have := HK.out.spots (HK.out.below HKS.out hb1) HWS.out
    rw [HCS.out] at this
    exact this)
   clear hb1 HDC
   go_wp2_with fail
   refine HSP.out.mono ?_
   rintro e w2 ⟨As, cs, rfl, hps, hcs, hnew, hb2⟩
   have HPS := Lib.hid hps
   have HCSC := Lib.hid hcs
   have HNEW := Lib.hid hnew
   have HB2 := Lib.hid hb2
   have HB12 := Lib.hid (below_then HB1.out hb2 HB1.out.size)
   obtain ⟨R, hR0, hR1, hR2, hR3⟩ := HO.out.below HB12.out
   have htk : (l.take i).length = i := by rw [List.length_take, ← HN.out]; omega
   rw [htk] at hR1
   have HR0 := Lib.hid hR0
   have HR1 := Lib.hid hR1
   have HR2 := Lib.hid hR2
   have HR3 := Lib.hid hR3
   obtain ⟨sl, hsl⟩ : ∃ sl, sl = sp.length := ⟨_, rfl⟩
   have HSPL := Lib.hid hsl
   rw [← hsl]
   obtain ⟨W3, hW3⟩ : ∃ z, z = w2.alloc (.cells #[.int .i64 sd, .slice As sl cs] 62) := ⟨_, rfl⟩
   have hb3 : Below w2.heap.size w2 W3 := by rw [hW3]; exact (Below.refl _ _).alloc (Nat.le_refl _) _
   have HB3 := Lib.hid hb3
   have HBL3 : Hid (Blk W3 w2.heap.size 62 #[.int .i64 sd, .slice As sl cs]) := Lib.hid (by rw [hW3]; exact Blk.new _ _ _)
   have HR4 := Lib.hid (ownsRow_block hR1 fun g hg => hb3.block g (hR1.lt g hg).2)
   have HW3 := Lib.hid hW3
   clear hps hcs hnew hb2 hR0 hR1 hR2 hR3 htk hsl hW3 hb3 HSP
   go_wp2_with (at_builtin; rw [← HW3.out]; refine wpList_append_own_at _ rfl (.tmp 21) (.tmp 26) 56 rfl 0 62 i2 _ 2 32 Tryz.underlying56 hi2 hx0 hx1 hx2 rfl (by decide) _ i _ rfl HR4.out ⟨w2.heap.size, 0, none⟩ 1 1 (docCells (sd, .slice As sl cs)) rfl rfl (doc_src (p := (sd, .slice As sl cs)) HBL3.out) (doc_one _ _ _ _) (by unfold maxLen; omega) (by omega) (Nat.zero_le _) ?_; intro v3 w3 hown hgrow _ hloc; have HOWN := Lib.hid hown; have HGRW := Lib.hid hgrow; have HLOC := Lib.hid hloc; clear hown hgrow hloc)
   have hwz := HKP.out.size
   have hz1 := HB12.out.size
   have hz3 := HB3.out.size
   have hz4 := HGRW.out.size
   have hVO : ∀ g, (Value.slice Av i cv).ownBlock = some g → w.heap.size ≤ g ∧ g < wr.heap.size ∧ ¬ F' g := fun g hg => HG.out g (HR2.out g hg)
   have HVO := Lib.hid hVO
   have hk3 : ∀ j, F' j → w3.heap[j]? = wr.heap[j]? := fun j hj => by
    have hjl := HK.out.lt HKS.out j hj
    rw [HGRW.out.block j (by omega) (fun e => (hVO j e.symm).2.2 hj), HB3.out.block j (by omega), HB12.out.block j hjl]
   have HKS3 := Lib.hid (HK.out.keep HKS.out hk3 (by omega))
   have HKP3 : Hid (Kept F w w3) := Lib.hid (by
    have h1 := HKP.out.trans (Kept.below (F := F) HB12.out) (fun _ _ h => h)
    have h2 := h1.trans (Kept.below (F := F) HB3.out) (fun _ _ h => h)
    exact h2.grown HGRW.out (fun g hg => .inr (HVO.out g hg).1))
   have HNXT := Lib.hid (HK.out.next HKS3.out HWS.out)
   have HPG : Hid (PostsG w3 (fun j => G j ∨ (wr.heap.size ≤ j ∧ j < w3.heap.size)) v3 (l.take (i + 1))) := Lib.hid (by
    rw [HTK.out]
    have htk : (l.take i).length = i := by rw [List.length_take, ← HN.out]; omega
    have hown := HOWN.out
    rw [HSPL.out] at hown
    refine PostsG.push (w0 := wr) (w := W3) HR0.out (fun g hg => ⟨HR2.out g hg, (HVO.out g hg).2.1⟩) (fun a p y e1 e2 => (HR3.out a p y e1 e2).mono (fun j hj hf => ⟨HB3.out.block j hj, hf⟩) HB3.out.size) (by unfold fits64; omega) (HPS.out.below HB3.out) HCSC.out (fun ad e h0 => ?_) (by omega) (by rw [htk]; exact hown) HGRW.out HLOC.out
    have := HNEW.out ad e h0
    have := HB1.out.size
    omega)
   clear hk3 hVO
   go_wp2_with fail
   refine HNXT.out.mono ?_
   rintro e w4 ⟨rfl, F2, hk4, hkp4, hF2⟩
   have HK4 := Lib.hid hk4
   have HKP4 := Lib.hid hkp4
   have HF2 := Lib.hid hF2
   clear hk4 hkp4 hF2
   go_wp2
   go_roundw
   case rel =>
    refine ⟨i + 1, F2, fun j => G j ∨ (wr.heap.size ≤ j ∧ j < w3.heap.size), cNext s, by omega, by go_num, HK4.out, HWS.out.next, HNL.out.1, HNL.out.2, HPG.out.keep (fun j hj hg => HKP4.out.block j hj (fun hf => ?_)) HKP4.out.size (fun _ h => h), ?_, fun j hj => ?_, fun j hj => ?_⟩
    ·rcases hg with hg | hg
     ·exact (HG.out j hg).2.2 hf
     ·have := HK.out.lt HKS.out j hf; omega
    ·exact HKP3.out.trans HKP4.out fun j hj hf => (HF.out j hf).elim id fun h => by omega
    ·rcases HF2.out j hj with h | h
     ·exact HF.out j h
     ·exact .inr (by omega)
    ·have hz5 := HKP4.out.size
     have hnF : ¬ F2 j := fun hf => by
      rcases HF2.out j hf with h | h
      ·rcases hj with hj | hj
       ·exact (HG.out j hj).2.2 h
       ·have := HK.out.lt HKS.out j h; omega
      ·rcases hj with hj | hj
       ·have := (HG.out j hj).2.1; omega
       ·omega
     rcases hj with hj | hj
     ·have := HG.out j hj
      exact ⟨this.1, by omega, hnF⟩
     ·exact ⟨by omega, by omega, hnF⟩
   case measure => simp [intOf]; omega
  ·have hin : cIn s = false := by unfold cIn; rw [HSL.out, HSA.out, ← HN.out]; simpa using hge
   rw [hin] at HDC
   have hin2 : i = n := by omega
   have HI := Lib.hid hin2
   clear hin hin2
   go_wp2_with fail
   refine HDC.out.mono ?_
   rintro e w1 ⟨rfl, hb1⟩
   have HB1 := Lib.hid hb1
   clear hb1 HDC
   go_wp2
   go_ret
   have hO := HO.out.below HB1.out
   rw [List.take_of_length_le (by rw [← HN.out, ← HI.out]; exact Nat.le_refl _)] at hO
   rw [show i = l.length by rw [← HN.out]; exact HI.out] at hO hcv ⊢
   exact ⟨Av, cv, rfl, hO.see rfl (by have h1 := HN.out; have h2 := HI.out; unfold maxLen; omega), hcv, HKP.out.trans (Kept.below (F := F) HB1.out) (fun _ _ h => h)⟩
theorem postsT_at {T : List (Int × List Pst)} (hT : (T.map Prod.fst).Pairwise (· < ·)) {i : Nat} {x : Int × List Pst} (h : T[i]? = some x) : postsT T x.1 = some x.2 := by
 have hmem := List.mem_of_getElem? h
 unfold postsT
 cases hf : T.find? fun y => y.1 == x.1 with
 | none =>
  have := List.find?_eq_none.1 hf x hmem
  simp at this
 | some y =>
  have h1 := List.mem_of_find?_eq_some hf
  have h2 : y.1 = x.1 := by simpa using List.find?_some hf
  have : y = x := by
   rw [List.pairwise_map] at hT
   obtain ⟨a, ha, rfl⟩ := List.getElem_of_mem h1
   obtain ⟨b, hb, rfl⟩ := List.getElem_of_mem hmem
   rcases Nat.lt_trichotomy a b with h3 | h3 | h3
   ·have := List.pairwise_iff_getElem.1 hT a b ha hb h3; omega
   ·subst h3; rfl
   ·have := List.pairwise_iff_getElem.1 hT b a hb ha h3; omega
  rw [this]
  rfl
end Go.Proofs.YthcjikpabpgpfaaGreat
