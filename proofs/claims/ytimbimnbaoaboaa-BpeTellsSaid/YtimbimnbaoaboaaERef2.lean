/- The contract of the document's Decode. -/
import Derived.Test.YtimbimnbaoaboaaVVoc
import Derived.Test.YtimbimnbaoaboaaKTok
namespace Go.Proofs.Ytimbimnbaoaboaa
open Go.RowKit Go.Maps Go.WideMaps

/-- What Decode has gathered in front of place k. -/
def decUp (L : List Nm) (l : List Int) : Nat → Nm
  | 0 => []
  | k + 1 => if (decUp L l k).length ≤ 4096 then decUp L l k ++ tokI L (l.getD k 0) else decUp L l k
def tokIn (L : List Nm) (i : Int) : Prop := 0 ≤ i ∧ i < L.length
instance (L : List Nm) (i : Int) : Decidable (tokIn L i) := by unfold tokIn; infer_instance
theorem decUp_yes {L : List Nm} {l : List Int} {k I : Nat} {x : Nm} (hi : l[k]? = some (I : Int)) (hx : L[I]? = some x) (h : (decUp L l k).length ≤ 4096) : decUp L l (k + 1) = decUp L l k ++ x := by
  have hlt := (List.getElem?_eq_some_iff.1 hx).1
  simp only [decUp, tokI, List.getD_eq_getElem?_getD, hi, Option.getD_some, Int.toNat_natCast, hx]
  rw [if_pos h, if_pos ⟨by omega, by omega⟩]
theorem decUp_no {L : List Nm} {l : List Int} {k : Nat} (h : ¬ (decUp L l k).length ≤ 4096) : decUp L l (k + 1) = decUp L l k := by
  simp only [decUp]
  rw [if_neg h]
/-- Its answer: the bytes and an errno. -/
def decB (L : List Nm) (l : List Int) : Nm × Nat :=
  if ∀ i ∈ l, tokIn L i then (if 4096 < (decUp L l l.length).length then ([], 2) else (decUp L l l.length, 0)) else ([], 1)
theorem decB_bad {L : List Nm} {l : List Int} {i : Int} {k : Nat} (hi : l[k]? = some i) (h : ¬ tokIn L i) : decB L l = ([], 1) := by
  unfold decB
  rw [if_neg fun e => h (e i (List.mem_of_getElem? hi))]
theorem decB_all {L : List Nm} {l : List Int} (h : ∀ (j : Nat) (i : Int), l[j]? = some i → tokIn L i) : decB L l = if 4096 < (decUp L l l.length).length then ([], 2) else (decUp L l l.length, 0) := by
  unfold decB
  rw [if_pos fun i hi => by obtain ⟨j, hj⟩ := List.mem_iff_getElem?.1 hi; exact h j i hj]

set_option maxHeartbeats 8000000 in
set_option maxRecDepth 100000 in
theorem r6Decode_any (w : World) (A B C : Option Addr) (n m ca cb p cc : Nat) (V : Voc) (l : List Int) (hV : VocSee w A B n m ca cb V) (hl : IntsIn w C p l) (hF : Fits V.tok) :
    Calls Try.prog 15 #[vocV A B n m ca cb, .slice C p cc] w fun e w' => ∃ v, e = .returned (.tuple #[v, .int .i64 (decB V.tok l).2]) ∧ w'.ownsRow w.heap.size 5 1 v (decB V.tok l).1.length ((decB V.tok l).1.map byteV) ∧ Below w.heap.size w w' := by
  obtain ⟨i0, hi, hz0, hz1, hz2⟩ := info_parts byteInfo
  obtain ⟨L, hL⟩ : ∃ L, L = V.tok := ⟨_, rfl⟩
  have ht := hV.tok
  rw [← hL] at ht hF ⊢
  clear hL hV
  obtain ⟨R, hR⟩ : ∃ R, R = decB L l := ⟨_, rfl⟩
  rw [← hR]
  have HR := Lib.hid hR
  have hn63 : n ≤ 9223372036854775807 := ht.fit
  have hp63 : p ≤ 9223372036854775807 := hl.1
  have HLA := Lib.hid ht.len
  have HLL := Lib.hid hl.len
  have HF := Lib.hid hF
  clear hR hF
  unfold vocV
  have hb0 : Below w.heap.size w (w.alloc (.cells #[.slice A n ca, .slice B m cb] 29)) := (Below.refl _ w).alloc (Nat.le_refl _) _
  have hbl : Blk (w.alloc (.cells #[.slice A n ca, .slice B m cb] 29)) w.heap.size 29 #[.slice A n ca, .slice B m cb] := Blk.new _ _ _
  have HBL := Lib.hid hbl
  have HA := Lib.hid (ht.below hb0)
  have HC := Lib.hid (hl.below hb0)
  have HBW := Lib.hid hb0
  have hsz0 : w.heap.size ≤ (w.alloc (.cells #[.slice A n ca, .slice B m cb] 29)).heap.size := hb0.size
  clear ht hl hb0 hbl
  go_enter Try.func15, Try.ntmps15
  go_wp2
  obtain ⟨W, hW⟩ : ∃ W, W = w.alloc (.cells #[.slice A n ca, .slice B m cb] 29) := ⟨_, rfl⟩
  rw [← hW] at HBL HA HC HBW hsz0 ⊢
  clear hW
  go_loopw [6, 7] (fun v i wr => ∃ k : Nat, k ≤ p ∧ i = .int .i64 k ∧ wr.ownsRow W.heap.size 5 1 v (decUp L l k).length ((decUp L l k).map byteV) ∧ Below W.heap.size W wr ∧ (∀ (j : Nat) (i : Int), j < k → l[j]? = some i → tokIn L i)) (fun _ i _ => p - (intOf i).toNat)
  case atStart => exact ⟨0, by omega, rfl, ⟨rfl, .inl ⟨rfl, rfl⟩⟩, Below.refl _ _, fun j i h => by omega⟩
  case round =>
    obtain ⟨k, hk, rfl, hO, hB, hok⟩ := hrel
    have HO := Lib.hid hO
    have HB := Lib.hid hB
    have HOK := Lib.hid hok
    have hsz := hB.size
    have HBT : Hid (Below w.heap.size w wr) := Lib.hid (below_then HBW.out hB hsz0)
    clear hO hB hok
    obtain ⟨Av, cv, hv⟩ := own_slice HO.out
    subst hv
    rcases Nat.lt_or_ge k p with hlt | hge
    · have hlt' : (k : Int) < (p : Int) := by omega
      have p0 : (0 : Int) ≤ (k : Int) := by omega
      obtain ⟨pc, i, rfl, hii, ei, hi1, hi2⟩ := (HC.out.below HB.out).at k hlt
      have HI := Lib.hid hii
      have hlen : l.length = p := HLL.out
      have e0 : ∀ q, (wr.drewN q).cell? ⟨w.heap.size, 0, none⟩ = some (.slice A n ca) := fun _ => (HBL.out.below HB.out HBL.out.lt).cell 0
      have ei' : ∀ q, (wr.drewN q).cell? (pc.add k) = some (.int .i64 i) := fun _ => ei
      clear hii hlen
      by_cases hyes : 0 ≤ i ∧ i < (n : Int)
      · obtain ⟨I, rfl⟩ : ∃ I : Nat, i = I := ⟨i.toNat, by omega⟩
        have d1 : decide ((I : Int) < 0) = false := decide_eq_false (by omega)
        have q0 : (0 : Int) ≤ (I : Int) := hyes.1
        have q1 : (I : Int) < (n : Int) := hyes.2
        have d3 : decide (n ≤ I) = false := decide_eq_false (by omega)
        have d4 : decide ((n : Int) ≤ (I : Int)) = false := decide_eq_false (by omega)
        have HIN : Hid (tokIn L (I : Int)) := Lib.hid ⟨q0, by rw [HLA.out]; exact q1⟩
        clear hyes
        obtain ⟨x, hx⟩ : ∃ x, L[I]? = some x := ⟨_, List.getElem?_eq_getElem (by rw [HLA.out]; omega)⟩
        obtain ⟨pa, Ax, cx, rfl, ea, ecx, ex⟩ := (HA.out.below HB.out).at_ I x hx
        have hxf := HF.out.at hx
        have HX := Lib.hid hx
        have EX := Lib.hid ex
        clear hx ex
        have HSTEP : Hid (∀ (j : Nat) (i : Int), j < k + 1 → l[j]? = some i → tokIn L i) := Lib.hid fun j i hj hji => by
          rcases Nat.lt_or_ge j k with h | h
          · exact HOK.out j i h hji
          · obtain rfl : j = k := by omega
            rw [HI.out] at hji
            obtain rfl := Option.some.inj hji
            exact HIN.out
        by_cases hle : (decUp L l k).length ≤ 4096
        · have d5 : decide (((decUp L l k).length : Int) ≤ 4096) = true := decide_eq_true (by omega)
          have HT := Lib.hid (decUp_yes HI.out HX.out hle)
          go_wp2_with fail
          go_quiet (fail)
          go_wp2_with fail
          refine wp_at ?_
          intro X hX
          have x0 : X.cell? ⟨w.heap.size, 0, none⟩ = some (.slice (some pa) n ca) := by rw [hX]; exact e0 0
          have x1 : X.cell? (pc.add k) = some (.int .i64 I) := by rw [hX]; exact ei
          have x2 : X.cell? (pa.add I) = some (.slice Ax x.length cx) := by rw [hX]; exact ea
          have HXO : Hid (X.ownsRow W.heap.size 5 1 (.slice Av (decUp L l k).length cv) (decUp L l k).length ((decUp L l k).map byteV)) := Lib.hid (by rw [hX]; exact HO.out)
          have HXB : Hid (Below W.heap.size W X) := Lib.hid (by rw [hX]; exact below_drewN HB.out _)
          have HXE : Hid (BytesIn X Ax x.length x) := Lib.hid (by rw [hX]; exact EX.out.drewN _)
          have hxs := HXB.out.size
          clear hX e0 ei' ei ea
          go_region_law (refine step_append_src _ rfl (.tmp 32) (.tmp 40) 23 rfl W.heap.size 5 i0 (.int .u8 0) 1 Try.underlying23 hi hz0 hz1 hz2 rfl (.slice Av (decUp L l k).length cv) (decUp L l k).length _ rfl (show World.ownsRow X.drew W.heap.size 5 1 _ _ _ from HXO.out) Ax x.length cx _ rfl HXE.out.drew.2.1 (u8_one x) (by unfold maxLen; omega) (by omega) (by simp; omega) ?_; intro v' w3 hown' hg2 hloc; obtain ⟨A3, cp3, hv3⟩ := own_slice hown'; rw [hv3] at hown' ⊢; have HG2 := Lib.hid hg2; have HO2 := Lib.hid hown'; clear hg2 hown' hloc hv3)
          all_goals
            go_wp2
            have HB3 := Lib.hid (HXB.out.drew.grown HG2.out hxs (fun g hg => (HXO.out.lt g hg).1))
            go_roundw
            case rel =>
              refine ⟨k + 1, by omega, by go_num, ?_, HB3.out, HSTEP.out⟩
              rw [HT.out, List.length_append, List.map_append]
              exact HO2.out
            case measure => simp [intOf]; omega
        · have d5 : decide (((decUp L l k).length : Int) ≤ 4096) = false := decide_eq_false (by omega)
          have HT := Lib.hid (decUp_no hle)
          clear hle
          go_wp2_with fail
          go_quiet (fail)
          go_wp2
          go_roundw
          case rel =>
            refine ⟨k + 1, by omega, by go_num, ?_, below_drewN HB.out _, HSTEP.out⟩
            rw [HT.out]
            exact HO.out
          case measure => simp [intOf]; omega
      · have hfin : R = ([], 1) := by rw [HR.out]; exact decB_bad HI.out (by unfold tokIn; rw [HLA.out]; exact hyes)
        have HFN := Lib.hid hfin
        clear hfin
        by_cases h0 : i < 0
        · have d1 : decide (i < 0) = true := decide_eq_true h0
          clear hyes
          go_wp2_with fail
          go_quiet (fail)
          go_wp2
          go_ret2
          refine ⟨.slice none 0 0, by rw [HFN.out]; rfl, by rw [HFN.out]; exact ⟨rfl, .inl ⟨rfl, rfl⟩⟩, below_drewN HBT.out _⟩
        · have d1 : decide (i < 0) = false := decide_eq_false h0
          have d4 : decide ((n : Int) ≤ i) = true := decide_eq_true (by omega)
          clear hyes
          go_wp2_with fail
          go_quiet (fail)
          go_wp2
          go_ret2
          refine ⟨.slice none 0 0, by rw [HFN.out]; rfl, by rw [HFN.out]; exact ⟨rfl, .inl ⟨rfl, rfl⟩⟩, below_drewN HBT.out _⟩
    · obtain rfl : k = p := by omega
      have hlz : ¬ ((k : Int) < (k : Int)) := by omega
      have hfin := decB_all (L := L) (l := l) fun j i h => HOK.out j i (by have := (List.getElem?_eq_some_iff.1 h).1; have := HLL.out; omega) h
      rw [← HR.out, HLL.out] at hfin
      by_cases hbig : 4096 < (decUp L l k).length
      · rw [if_pos hbig] at hfin
        have HFN := Lib.hid hfin
        have d5 : decide ((4096 : Int) < ((decUp L l k).length : Int)) = true := decide_eq_true (by omega)
        clear hfin
        go_wp2
        go_ret2
        refine ⟨.slice none 0 0, by rw [HFN.out]; rfl, by rw [HFN.out]; exact ⟨rfl, .inl ⟨rfl, rfl⟩⟩, HBT.out⟩
      · rw [if_neg hbig] at hfin
        have HFN := Lib.hid hfin
        have d5 : decide ((4096 : Int) < ((decUp L l k).length : Int)) = false := decide_eq_false (by omega)
        clear hfin
        go_wp2
        go_ret2
        refine ⟨_, by rw [HFN.out]; rfl, ?_, HBT.out⟩
        rw [HFN.out]
        exact Go.Joins.ownsRow_le HO.out hsz0
end Go.Proofs.Ytimbimnbaoaboaa
