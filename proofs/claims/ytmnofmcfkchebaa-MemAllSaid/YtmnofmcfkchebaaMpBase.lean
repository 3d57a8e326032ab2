/- The landed mem in memory; New, Many, areSpots. -/
import Derived.Test.YtmnofmcfkchebaaMpMap
import Derived.Test.YtmnofmcfkchebaaMmSpec
import Derived.OwnWalk
namespace Go.Proofs.Ytmnofmcfkchebaa
open Go.RowKit Go.Maps Go.WideMaps
set_option linter.unusedSimpArgs false

/-- The landed mem lies at b, in the blocks F. -/
def M0 (w : World) (F : Nat → Prop) (b : Nat) (L : List MDoc) : Prop :=
  F b ∧ (∀ i, F i → i < w.heap.size) ∧ ∃ mb, Blk w b 52 #[.map (some mb), .int .i64 (L.length : Int), .int .i64 (lastM L + 1)] ∧ PMap w mb (totT L) (plOf L) fun i => F i ∧ i ≠ b
theorem M0.keep {w w' : World} {F : Nat → Prop} {b : Nat} {L : List MDoc} (h : M0 w F b L) (hk : ∀ i, F i → w'.heap[i]? = w.heap[i]?) (hs : w.heap.size ≤ w'.heap.size) : M0 w' F b L := by
  obtain ⟨h1, h2, mb, h3, h4⟩ := h
  exact ⟨h1, fun i hi => Nat.lt_of_lt_of_le (h2 i hi) hs, mb, (hk b h1).trans h3, h4.keep fun i hi => hk i hi.1⟩

set_option maxHeartbeats 4000000 in
set_option maxRecDepth 100000 in
theorem m0New_any (w : World) : Calls Try.prog 8 #[] w fun e w' => ∃ b F, e = .returned (.pointer (some ⟨b, 0, none⟩)) ∧ Below w.heap.size w w' ∧ M0 w' F b [] ∧ ∀ i, F i → w.heap.size ≤ i := by
  have hmm := @run_makeMap Try.prog
  go_enter Try.func8, Try.ntmps8
  go_wp2
  clear hmm
  go_ret
  refine ⟨w.heap.size + 1, fun i => i = w.heap.size ∨ i = w.heap.size + 1, rfl, ((Below.refl _ _).alloc (Nat.le_refl _) _).alloc (by simp) _, ⟨.inr rfl, fun i hi => by simp; omega, w.heap.size, ?_, ?_⟩, fun i hi => by omega⟩
  · have h1 := Blk.new (w.alloc (.map #[] 0)) 52 #[.map (some w.heap.size), .int .i64 0, .int .i64 0]
    rw [World.size_alloc] at h1
    exact h1
  · have h1 := PMap.made w
    refine ((h1.keep (w' := (w.alloc (.map #[] 0)).alloc (.cells #[.map (some w.heap.size), .int .i64 0, .int .i64 0] 52)) fun i hi => ?_).lets (fun t => rfl) (fun i hi => ⟨.inl hi, by omega⟩)).more (by simp [totT])
    exact Below.heap_alloc _ _ i (by subst hi; simp)

set_option maxHeartbeats 4000000 in
set_option maxRecDepth 100000 in
theorem m0Many_any {w : World} {F : Nat → Prop} {b : Nat} {L : List MDoc} (h : M0 w F b L) : Calls Try.prog 12 #[.pointer (some ⟨b, 0, none⟩)] w fun e w' => e = .returned (.int .i64 (L.length : Int)) ∧ Below w.heap.size w w' := by
  obtain ⟨h1, h2, mb, h3, h4⟩ := h
  have c1 := h3.cell 1
  simp only [List.getElem?_toArray, List.getElem?_cons_succ, List.getElem?_cons_zero] at c1
  have hbl := h3.lt
  obtain ⟨n, hn⟩ : ∃ n : Int, n = (L.length : Int) := ⟨_, rfl⟩
  rw [← hn] at c1 ⊢
  clear h1 h2 h3 h4 hn
  go_enter Try.func12, Try.ntmps12
  go_wp2
  go_ret
  exact ⟨rfl, Below.refl _ _⟩

/-- Numbers that may be a document's: where the first does not fit. -/
def lastS (x : MDoc) (i : Nat) : Int := if i = 0 then -1 else x.S.getD (i - 1) 0
theorem badAt_test (x : MDoc) (i : Nat) (hl : badTo x i = false) : badAt x i = (decide (x.T.getD i 0 < 0) || decide (x.S.getD i 0 ≤ lastS x i)) := by
  have h1 : 0 < i → 0 ≤ x.S.getD (i - 1) 0 := fun h => (badAt_iff.1 (badTo_iff.1 hl (i - 1) (by omega))).2.1
  unfold badAt lastS
  obtain ⟨a, ha⟩ : ∃ a, a = x.T.getD i 0 := ⟨_, rfl⟩
  obtain ⟨b, hb⟩ : ∃ b, b = x.S.getD i 0 := ⟨_, rfl⟩
  obtain ⟨c, hc⟩ : ∃ c, c = x.S.getD (i - 1) 0 := ⟨_, rfl⟩
  rw [← ha, ← hb, ← hc]
  rw [← hc] at h1
  clear ha hb hc hl
  rw [Bool.eq_iff_iff]
  simp only [Bool.or_eq_true, Bool.and_eq_true, decide_eq_true_eq]
  split <;> omega

set_option maxHeartbeats 4000000 in
set_option maxRecDepth 100000 in
theorem m0Spots_any {w : World} {A B : Option Addr} {n m c d : Nat} {x : MDoc} (hT : IntsIn w A n x.T) (hS : IntsIn w B m x.S) : Calls Try.prog 20 #[.slice A n c, .slice B m d] w fun e w' => e = .returned (.bool (decide (n = m ∧ badTo x n = false))) ∧ ∃ q, w' = w.drewN q := by
  have HT := Lib.hid hT
  have HS := Lib.hid hS
  have hn63 := hT.1
  have hm63 := hS.1
  unfold maxLen at hn63 hm63
  clear hT hS
  go_enter Try.func20, Try.ntmps20
  by_cases hnm : n = m
  · subst hnm
    have e1 : ((n : Int) != (n : Int)) = false := by simp
    go_wp2
    go_loopw [5, 15] (fun lv iv wr => ∃ i q : Nat, i ≤ n ∧ lv = .int .i64 (lastS x i) ∧ iv = .int .i64 i ∧ wr = w.drewN q ∧ badTo x i = false) (fun _ iv _ => n - (Go.RowKit.intOf iv).toNat)
    case atStart => exact ⟨0, 0, by omega, rfl, rfl, rfl, rfl⟩
    case round =>
      obtain ⟨i, q, hi, rfl, rfl, hwr, hbad⟩ := hrel
      have HWR := Lib.hid hwr
      have HBAD := Lib.hid hbad
      rcases Nat.lt_or_ge i n with hlt | hge
      · have d1 : decide ((i : Int) < (n : Int)) = true := by simpa using hlt
        have p0 : (0 : Int) ≤ (i : Int) := by omega
        have p1 : (i : Int) < (n : Int) := by omega
        have hw5 : IntKind.i64.wrap ((i : Int) + 1) = (i : Int) + 1 := IntWalk.i64_in _ (by omega)
        obtain ⟨pa, y, rfl, hy, cy, -, -⟩ := HT.out.at i hlt
        obtain ⟨pb, z, rfl, hz, cz, -, -⟩ := HS.out.at i hlt
        have HB1 : Hid (badTo x (i + 1) = (decide (y < 0) || decide (z ≤ lastS x i))) := Lib.hid (by
          have h1 : x.T.getD i 0 = y := by rw [List.getD_eq_getElem?_getD, hy]; rfl
          have h2 : x.S.getD i 0 = z := by rw [List.getD_eq_getElem?_getD, hz]; rfl
          rw [badTo, hbad, badAt_test x i hbad, h1, h2]
          rfl)
        have HL : Hid (lastS x (i + 1) = z) := Lib.hid (by
          unfold lastS
          rw [if_neg (by omega), Nat.add_sub_cancel, List.getD_eq_getElem?_getD, hz]
          rfl)
        obtain ⟨l, hl⟩ : ∃ l, l = lastS x i := ⟨_, rfl⟩
        rw [← hl] at HB1 ⊢
        have cy' : wr.cell? (pa.add i) = some (.int .i64 y) := by rw [hwr]; exact cy
        have cz' : wr.cell? (pb.add i) = some (.int .i64 z) := by rw [hwr]; exact cz
        clear hy hz hwr hbad cy cz hl
        by_cases h1 : y < 0
        · have d2 : decide (y < 0) = true := by simpa using h1
          have HE : Hid (badTo x n = true) := Lib.hid (by
            have h3 : badTo x (i + 1) = true := by rw [HB1.out, d2]; rfl
            cases h4 : badTo x n with
            | true => rfl
            | false => rw [badTo_iff.2 fun j hj => badTo_iff.1 h4 j (by omega)] at h3; cases h3)
          go_wp2
          go_ret
          exact ⟨by simp [HE.out], q, HWR.out⟩
        · have d2 : decide (y < 0) = false := by simpa using h1
          by_cases h2 : z ≤ l
          · have d3 : decide (z ≤ l) = true := by simpa using h2
            have HE : Hid (badTo x n = true) := Lib.hid (by
              have h3 : badTo x (i + 1) = true := by rw [HB1.out, d2, d3]; rfl
              cases h4 : badTo x n with
              | true => rfl
              | false => rw [badTo_iff.2 fun j hj => badTo_iff.1 h4 j (by omega)] at h3; cases h3)
            go_wp2
            go_ret
            exact ⟨by simp [HE.out], q, HWR.out⟩
          · have d3 : decide (z ≤ l) = false := by simpa using h2
            have HE : Hid (badTo x (i + 1) = false) := Lib.hid (by rw [HB1.out, d2, d3]; rfl)
            go_wp2
            go_roundw
            case rel => exact ⟨i + 1, q, by omega, by rw [HL.out], by go_num, HWR.out, HE.out⟩
            case measure => simp [Go.RowKit.intOf]; omega
      · obtain rfl : i = n := by omega
        have hlz : ¬ ((i : Int) < (i : Int)) := by omega
        clear hwr hbad
        go_wp2
        go_ret
        exact ⟨by simp [HBAD.out], q, HWR.out⟩
  · have e1 : ((n : Int) != (m : Int)) = true := by simp; omega
    go_wp2
    go_ret
    exact ⟨by simp [hnm], 0, rfl⟩
end Go.Proofs.Ytmnofmcfkchebaa
