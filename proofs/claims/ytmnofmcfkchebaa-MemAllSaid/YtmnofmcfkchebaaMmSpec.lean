/- What the laws of mem ask of the program; Great. -/
import Derived.Test.YtmnofmcfkchebaaMmTwo
import Derived.Test.YtmnofmcfkchebaaKPosts
import Derived.Deep.QuietTactic
import Derived.BigQuiet
import Derived.Lib.MinMax
namespace Go.Proofs.Ytmnofmcfkchebaa
open Go.RowKit Go.Maps Go.WideMaps
set_option linter.unusedSimpArgs false

/-- What an Add leaves: M w F b L: the documents L lie at b, in the blocks F. -/
def AddOut (M : World → (Nat → Prop) → Nat → List MDoc → Prop) (w : World) (F : Nat → Prop) (b : Nat) (L : List MDoc) (x : MDoc) (e : Ending) (w' : World) : Prop := e = .returned (.int .i64 (mErr L x)) ∧ ∃ F', M w' F' b (mAdd L x) ∧ Kept F w w' ∧ ∀ i, F' i → F i ∨ w.heap.size ≤ i
/-- Numbers have come back, to read. -/
def IntsBack (w : World) (l : List Int) (e : Ending) (w' : World) : Prop := ∃ A c, e = .returned (.slice A l.length c) ∧ IntsIn w' A l.length l ∧ l.length ≤ c ∧ Below w.heap.size w w'
/-- Postings have come back, to read. -/
def PostsBack (w : World) (l : List (Int × List (Int × Int))) (e : Ending) (w' : World) : Prop := ∃ A c, e = .returned (.slice A l.length c) ∧ PostsSee w' A l.length l ∧ l.length ≤ c ∧ Below w.heap.size w w'
/-- The contracts of the program's mem. -/
structure MemOk (M : World → (Nat → Prop) → Nat → List MDoc → Prop) : Prop where
  keep : ∀ {w w' : World} {F : Nat → Prop} {b : Nat} {L : List MDoc}, M w F b L → (∀ i, F i → w'.heap[i]? = w.heap[i]?) → w.heap.size ≤ w'.heap.size → M w' F b L
  lt : ∀ {w : World} {F : Nat → Prop} {b : Nat} {L : List MDoc}, M w F b L → ∀ i, F i → i < w.heap.size
  new : ∀ w : World, Calls Try.prog 8 #[] w fun e w' => ∃ b F, e = .returned (.pointer (some ⟨b, 0, none⟩)) ∧ Below w.heap.size w w' ∧ M w' F b [] ∧ ∀ i, F i → w.heap.size ≤ i
  many : ∀ {w : World} {F : Nat → Prop} {b : Nat} {L : List MDoc}, M w F b L → MWF L → Calls Try.prog 12 #[.pointer (some ⟨b, 0, none⟩)] w fun e w' => e = .returned (.int .i64 (L.length : Int)) ∧ Below w.heap.size w w'
  add : ∀ {w : World} {F : Nat → Prop} {b : Nat} {L : List MDoc}, M w F b L → MWF L → totT L ≤ 20000 → ∀ (x : MDoc) (A C : Option Addr) (n m c cc : Nat), IntsIn w A n x.T → IntsIn w C m x.S → n ≤ c → m ≤ cc → (∀ ad, A = some ad → 0 < n → ¬ F ad.block) → (∀ ad, C = some ad → 0 < m → ¬ F ad.block) → fits64 x.doc →
    Calls Try.prog 10 #[.pointer (some ⟨b, 0, none⟩), .int .i64 x.doc, .slice A n c, .slice C m cc] w (AddOut M w F b L x)
  terms : ∀ {w : World} {F : Nat → Prop} {b : Nat} {L : List MDoc}, M w F b L → MWF L → totT L ≤ 20000 → Calls Try.prog 13 #[.pointer (some ⟨b, 0, none⟩)] w (IntsBack w (mTerms L))
  posts : ∀ {w : World} {F : Nat → Prop} {b : Nat} {L : List MDoc}, M w F b L → MWF L → totT L ≤ 20000 → ∀ t : Int, fits64 t → Calls Try.prog 17 #[.pointer (some ⟨b, 0, none⟩), .int .i64 t] w (PostsBack w (mPosts L t))
section
variable {M : World → (Nat → Prop) → Nat → List MDoc → Prop} (hM : MemOk M)
include hM
theorem MemOk.below {w w' : World} {F : Nat → Prop} {b : Nat} {L : List MDoc} (h : M w F b L) (hb : Below w.heap.size w w') : M w' F b L := hM.keep h (fun i hi => hb.block i (hM.lt h i hi)) hb.size
/-- What another has done to blocks of its own. -/
theorem MemOk.far {w w' : World} {F G : Nat → Prop} {b : Nat} {L : List MDoc} (h : M w F b L) (hk : Kept G w w') (hd : ∀ i, F i → ¬ G i) : M w' F b L := hM.keep h (fun i hi => hk.block i (hM.lt h i hi) (hd i hi)) hk.size
end
/-- All blocks are new since W. -/
def MNew (W : World) (F : Nat → Prop) : Prop := ∀ i, F i → W.heap.size ≤ i
theorem MNew.more {W w : World} {F F' : Nat → Prop} (h : MNew W F) (h2 : ∀ i, F' i → F i ∨ w.heap.size ≤ i) (hb : W.heap.size ≤ w.heap.size) : MNew W F' := fun i hi => by
  rcases h2 i hi with h3 | h3
  · exact h i h3
  · omega
theorem below_mine {W u v : World} {F : Nat → Prop} (h : Below W.heap.size W u) (hk : Kept F u v) (hF : MNew W F) : Below W.heap.size W v := h.trans (hk.toBelow h.size hF)
theorem ints_three {w : World} {g : Nat} {e : TypeId} {a b c : Int} (h : Blk w g e #[.int .i64 a, .int .i64 b, .int .i64 c]) (hf : ∀ y ∈ [a, b, c], -9223372036854775808 ≤ y ∧ y ≤ 9223372036854775807) : IntsIn w (some ⟨g, 0, none⟩) 3 [a, b, c] := by
  refine ⟨by unfold maxLen; omega, ⟨rfl, fun ad e j u hu => ?_, fun e => by cases e⟩, hf, fun ad e _ => by cases e; exact h.lt⟩
  cases e
  match j with
  | 0 => simp [i64V] at hu; subst hu; exact h.cell 0
  | 1 => simp [i64V] at hu; subst hu; exact h.cell 1
  | 2 => simp [i64V] at hu; subst hu; exact h.cell 2
  | j + 3 => simp at hu
theorem ints_none (w : World) : IntsIn w none 0 [] := ⟨by unfold maxLen; omega, ⟨rfl, (fun ad e => by cases e), fun _ => rfl⟩, by simp, fun ad e => by cases e⟩
/-- How much there is: what Great counts. -/
def bigUp (X : List MDoc) : Nat → Nat
  | 0 => 0
  | k + 1 => bigUp X k + (min (mD X k).T.length 5000 + min (mD X k).S.length 5000)
theorem big_tot {X : List MDoc} : ∀ k, totT (addUp X k) ≤ bigUp X k
  | 0 => by simp [addUp, totT, bigUp]
  | k + 1 => by
    have h := big_tot (X := X) k
    rw [addUp, bigUp]
    unfold mAdd
    split
    · rename_i h0
      have := (mErr_ok h0).2.1
      rw [totT_append]
      have h3 : totT [mD X k] = (mD X k).T.length := by simp [totT]
      rw [h3]
      omega
    · omega

set_option maxHeartbeats 4000000 in
set_option maxRecDepth 100000 in
theorem mmGreat_any (w : World) (A : Option Addr) (n c : Nat) (X : List MDoc) (h : OnesSee w A n X) : Calls Try.prog 9 #[.slice A n c] w fun e w' => ∃ r, e = .returned (.bool r) ∧ (∃ q, w' = w.drewN q) ∧ (r = false → n + bigUp X n < 9000) := by
  have HP := Lib.hid h
  have hn63 := h.fit
  unfold maxLen at hn63
  clear h
  go_enter Try.func9, Try.ntmps9
  go_wp2
  go_loopw [3, 4] (fun v i wr => ∃ k N q : Nat, k ≤ n ∧ v = .int .i64 N ∧ i = .int .i64 k ∧ wr = w.drewN q ∧ (N = n ∨ N ≤ 19000) ∧ N = n + bigUp X k) (fun _ i _ => n - (intOf i).toNat)
  case atStart => exact ⟨0, n, 0, by omega, rfl, rfl, rfl, .inl rfl, rfl⟩
  case round =>
    obtain ⟨k, N, q, hk, rfl, rfl, hwr, h1, h3⟩ := hrel
    have H3 := Lib.hid h3
    have HWR := Lib.hid hwr
    clear h3 hwr
    by_cases hkn : k < n
    · have d1 : decide ((k : Int) < (n : Int)) = true := by simpa using hkn
      by_cases hN : N < 9000
      · have d2 : decide ((N : Int) < 9000) = true := by simp; omega
        have p0 : (0 : Int) ≤ (k : Int) := by omega
        have p1 : (k : Int) < (n : Int) := by omega
        obtain ⟨pa, x, B, cB, C, cC, rfl, hx, -, -, a1, a2, hcB, -, hcC, -⟩ := HP.out.at k hkn
        have hpx := mD_at hx
        obtain ⟨S1, hS1⟩ : ∃ S1, S1 = x.T.length := ⟨_, rfl⟩
        obtain ⟨S2, hS2⟩ : ∃ S2, S2 = x.S.length := ⟨_, rfl⟩
        rw [← hS1] at a1 hcB
        rw [← hS2] at a2 hcC
        obtain ⟨E1, hE1⟩ : ∃ E1 : Nat, E1 = min S1 5000 := ⟨_, rfl⟩
        obtain ⟨E2, hE2⟩ : ∃ E2 : Nat, E2 = min S2 5000 := ⟨_, rfl⟩
        have hm1 : ∀ w ty, (Builtin.min_ #[3, 3] ty #[.int .i64 (S1 : Int), .int .i64 5000]).run Try.prog w = .ok (.int .i64 (E1 : Int)) w := fun w ty => by
          rw [Lib.run_min_ints, show min (S1 : Int) 5000 = (E1 : Int) by omega]
        have hm2 : ∀ w ty, (Builtin.min_ #[3, 3] ty #[.int .i64 (S2 : Int), .int .i64 5000]).run Try.prog w = .ok (.int .i64 (E2 : Int)) w := fun w ty => by
          rw [Lib.run_min_ints, show min (S2 : Int) 5000 = (E2 : Int) by omega]
        have e1 : E1 ≤ 5000 := by omega
        have e2 : E2 ≤ 5000 := by omega
        have hw2 : IntKind.i64.wrap ((N : Int) + (E1 : Int)) = ((N + E1 : Nat) : Int) := by rw [IntWalk.i64_in _ (by omega)]; push_cast; rfl
        have hw2' : IntKind.i64.wrap (((N + E1 : Nat) : Int) + (E2 : Int)) = ((N + E1 + E2 : Nat) : Int) := by rw [IntWalk.i64_in _ (by omega)]; push_cast; rfl
        have hw3 : IntKind.i64.wrap ((k : Int) + 1) = (k : Int) + 1 := IntWalk.i64_in _ (by omega)
        have HNX : Hid (N + E1 + E2 = n + bigUp X (k + 1)) := Lib.hid (by have := H3.out; simp only [bigUp, hpx]; omega)
        clear hx hpx hS1 hS2 hE1 hE2
        have a1w : ∀ k', (wr.drewN k').cell? ⟨(pa.add (k * 3)).block, (pa.add (k * 3)).off + 1, none⟩ = some (.slice B S1 cB) := fun k' => by rw [HWR.out]; exact a1
        have a2w : ∀ k', (wr.drewN k').cell? ⟨(pa.add (k * 3)).block, (pa.add (k * 3)).off + 2, none⟩ = some (.slice C S2 cC) := fun k' => by rw [HWR.out]; exact a2
        clear a1 a2
        go_upto_region 5 with fail
        go_quiet (fail)
        go_wp2
        go_roundw
        case rel => exact ⟨k + 1, N + E1 + E2, _, by omega, by go_num, by go_num, by rw [HWR.out, World.drewN_drewN], .inr (by omega), HNX.out⟩
        case measure => simp [intOf]; omega
      · have d2 : decide ((N : Int) < 9000) = false := by simp; omega
        have d3 : decide ((9000 : Int) ≤ (N : Int)) = true := by simp; omega
        go_wp2
        go_ret
        exact ⟨true, rfl, ⟨q, HWR.out⟩, fun e => by cases e⟩
    · have d1 : decide ((k : Int) < (n : Int)) = false := by simpa using hkn
      obtain ⟨r, hr⟩ : ∃ r : Bool, r = decide ((9000 : Int) ≤ (N : Int)) := ⟨_, rfl⟩
      have hfin : r = false → n + bigUp X n < 9000 := fun e => by
        rw [e] at hr
        have h5 := of_decide_eq_false hr.symm
        have h4 := H3.out
        rw [show k = n by omega] at h4
        omega
      have HFIN := Lib.hid hfin
      have HRR := Lib.hid hr.symm
      clear hfin hr
      have d3 := HRR.out
      go_wp2
      go_ret
      exact ⟨r, rfl, ⟨q, HWR.out⟩, HFIN.out⟩
end Go.Proofs.Ytmnofmcfkchebaa
