/- What the laws of cursor ask of the program; and what they call besides. -/
import Derived.Test.YthmjanhdjchdbaaCuRef3
import Derived.Test.YthmjanhdjchdbaaPWords
namespace Go.Proofs.Ythmjanhdjchdbaa
open Go.RowKit Go.Maps Go.WideMaps
set_option linter.unusedSimpArgs false

/-- The contracts of the program's cursor: K w F b s: a cursor that stands so lies at b, in the blocks F. -/
structure CursorOk (K : World → (Nat → Prop) → Nat → CSt → Prop) : Prop where
  keep : ∀ {w w' : World} {F : Nat → Prop} {b : Nat} {s : CSt}, K w F b s → (∀ i, F i → w'.heap[i]? = w.heap[i]?) → w.heap.size ≤ w'.heap.size → K w' F b s
  lt : ∀ {w : World} {F : Nat → Prop} {b : Nat} {s : CSt}, K w F b s → ∀ i, F i → i < w.heap.size
  new_bad : ∀ (w : World) (A : Option Addr) (n c : Nat) (x : Nm), BytesIn w A n x → n ≤ c → n ≤ 1099511627776 → (getP x).2 ≠ 0 → Calls Try.prog 11 #[.slice A n c] w fun e w' => e = .returned (.tuple #[.pointer none, .int .i64 (getP x).2]) ∧ Below w.heap.size w w'
  new : ∀ (w : World) (A : Option Addr) (n c : Nat) (x : Nm), BytesIn w A n x → n ≤ c → n ≤ 1099511627776 → (getP x).2 = 0 → Calls Try.prog 11 #[.slice A n c] w fun e w' => ∃ b F, e = .returned (.tuple #[.pointer (some ⟨b, 0, none⟩), .int .i64 0]) ∧ Below w.heap.size w w' ∧ K w' F b (cStart (getP x).1) ∧ ∀ i, F i → w.heap.size ≤ i
  doc : ∀ {w : World} {F : Nat → Prop} {b : Nat} {s : CSt}, K w F b s → CWF s → Calls Try.prog 13 #[.pointer (some ⟨b, 0, none⟩)] w fun e w' => e = .returned (.tuple #[.int .i64 (cDoc s), .bool (cIn s)]) ∧ Below w.heap.size w w'
  spots : ∀ {w : World} {F : Nat → Prop} {b : Nat} {s : CSt}, K w F b s → CWF s → Calls Try.prog 16 #[.pointer (some ⟨b, 0, none⟩)] w (SpotsOut w (cSpots s))
  next : ∀ {w : World} {F : Nat → Prop} {b : Nat} {s : CSt}, K w F b s → CWF s → Calls Try.prog 19 #[.pointer (some ⟨b, 0, none⟩)] w fun e w' => e = .returned (.bool (cIn (cNext s))) ∧ ∃ F', K w' F' b (cNext s) ∧ Kept F w w' ∧ ∀ i, F' i → F i ∨ w.heap.size ≤ i
  skip : ∀ {w : World} {F : Nat → Prop} {b : Nat} {s : CSt}, K w F b s → CWF s → ∀ d : Int, fits64 d → Calls Try.prog 21 #[.pointer (some ⟨b, 0, none⟩), .int .i64 d] w fun e w' => e = .returned (.bool (cIn (cSkip s d))) ∧ ∃ F', K w' F' b (cSkip s d) ∧ Kept F w w' ∧ ∀ i, F' i → F i ∨ w.heap.size ≤ i
  reads : ∀ {w : World} {F : Nat → Prop} {b : Nat} {s : CSt}, K w F b s → CWF s → Calls Try.prog 18 #[.pointer (some ⟨b, 0, none⟩)] w fun e w' => e = .returned (.int .i64 s.read) ∧ Below w.heap.size w w'
section
variable {K : World → (Nat → Prop) → Nat → CSt → Prop} (hK : CursorOk K)
include hK
theorem CursorOk.below {w w' : World} {F : Nat → Prop} {b : Nat} {s : CSt} (h : K w F b s) (hb : Below w.heap.size w w') : K w' F b s := hK.keep h (fun i hi => hb.block i (hK.lt h i hi)) hb.size
/-- What another has done to blocks of its own. -/
theorem CursorOk.far {w w' : World} {F G : Nat → Prop} {b : Nat} {s : CSt} (h : K w F b s) (hk : Kept G w w') (hd : ∀ i, F i → ¬ G i) : K w' F b s := hK.keep h (fun i hi => hk.block i (hK.lt h i hi) (hd i hi)) hk.size
end
/-- All blocks of a cursor are new since W. -/
def NewIn (W : World) (F : Nat → Prop) : Prop := ∀ i, F i → W.heap.size ≤ i
theorem NewIn.more {W w : World} {F F' : Nat → Prop} (h : NewIn W F) (h2 : ∀ i, F' i → F i ∨ w.heap.size ≤ i) (hb : W.heap.size ≤ w.heap.size) : NewIn W F' := fun i hi => by
  rcases h2 i hi with h3 | h3
  · exact h i h3
  · omega
theorem below_kept {W u v : World} {F : Nat → Prop} (h : Below W.heap.size W u) (hk : Kept F u v) (hF : NewIn W F) : Below W.heap.size W v := h.trans (hk.toBelow h.size hF)
/-- The bytes of any postings. -/
def RowFound (w : World) (b : List UInt8) (e : Ending) (w' : World) : Prop := ∃ A c, e = .returned (.slice A b.length c) ∧ BytesIn w' A b.length b ∧ b.length ≤ c ∧ (∀ ad, A = some ad → w.heap.size ≤ ad.block) ∧ Below w.heap.size w w'

set_option maxHeartbeats 4000000 in
set_option maxRecDepth 100000 in
theorem cuBytes_any (w : World) (A : Option Addr) (n c : Nat) (l : List Pst) (h : PostsSee w A n l) (hn : n ≤ 9223372036854775807) {b : List UInt8} (hb : putE l = b) : Calls Try.prog 10 #[.slice A n c] w (RowFound w b) := by
  have HC := Lib.hid (r9Put_any w A n c l h hn)
  have HF := Lib.hid (fit_of h)
  have HB := Lib.hid hb
  clear h hb
  go_enter Try.func10, Try.ntmps10
  go_wp2_with fail
  refine HC.out.mono ?_
  rintro e w1 ⟨v, rfl, ho, hb1⟩
  obtain ⟨X, cc, rfl⟩ := own_slice ho
  have HO := Lib.hid ho
  have HB1 := Lib.hid hb1
  clear ho hb1
  go_wp2
  go_ret
  rw [← HB.out]
  exact ⟨X, cc, rfl, BytesIn.own HO.out (by have := putE_len HF.out; unfold maxLen; omega), rowCap_le HO.out, fun ad e => (HO.out.lt ad.block (by rw [e]; rfl)).1, HB1.out⟩

set_option maxHeartbeats 4000000 in
set_option maxRecDepth 100000 in
theorem cuGreat_any (w : World) (A : Option Addr) (n c : Nat) (l : List Pst) (h : PostsSee w A n l) (hn : n ≤ 140737488351232) (hz : ∀ x ∈ l, x.2.length ≤ 140737488351232) :
    Calls Try.prog 9 #[.slice A n c] w fun e w' => ∃ r, e = .returned (.bool r) ∧ w' = w ∧ (r = false → n + spUp l n < 10000 ∧ ∀ x ∈ l, x.2.length < 10000) := by
  have HP := Lib.hid h
  have HLEN := Lib.hid h.len
  have HZ := Lib.hid hz
  clear h hz
  go_enter Try.func9, Try.ntmps9
  go_wp2
  go_loopw [3, 4] (fun v i wr => ∃ k N : Nat, k ≤ n ∧ v = .int .i64 N ∧ i = .int .i64 k ∧ wr = w ∧ n ≤ N ∧ N ≤ 281474976800000 ∧ N = n + spUp l k) (fun _ i _ => n - (intOf i).toNat)
  case atStart => exact ⟨0, n, by omega, rfl, rfl, rfl, by omega, by omega, rfl⟩
  case round =>
    obtain ⟨k, N, hk, rfl, rfl, rfl, h1, h2, h3⟩ := hrel
    have H3 := Lib.hid h3
    clear h3
    by_cases hg : k < n ∧ N < 10000
    · have hlt' : (k : Int) < (n : Int) := by omega
      have d1 : decide ((k : Int) < (n : Int)) = true := by simpa using hg.1
      have d2 : decide ((N : Int) < 10000) = true := by simp; omega
      have p0 : (0 : Int) ≤ (k : Int) := by omega
      obtain ⟨pa, x, SA, da, rfl, hx, -, a0, a1, -, -⟩ := HP.out.at k hg.1
      have hxz := HZ.out x (List.mem_of_getElem? hx)
      have hpx := pAt_eq hx
      obtain ⟨K, hK⟩ : ∃ K, K = x.2.length := ⟨_, rfl⟩
      rw [← hK] at a1 hxz
      have hw2 : IntKind.i64.wrap ((N : Int) + (K : Int)) = ((N + K : Nat) : Int) := by rw [IntWalk.i64_in _ (by omega)]; push_cast; rfl
      have hw3 : IntKind.i64.wrap ((k : Int) + 1) = (k : Int) + 1 := IntWalk.i64_in _ (by omega)
      have HNX : Hid (N + K = n + spUp l (k + 1)) := Lib.hid (by have := H3.out; simp only [spUp, hpx]; omega)
      clear hx hpx hK
      go_wp2
      go_roundw
      case rel => exact ⟨k + 1, N + K, by omega, by go_num, by go_num, by first | rfl | trivial, by omega, by omega, HNX.out⟩
      case measure => simp [intOf]; omega
    · by_cases hkn : k < n
      · have d1 : decide ((k : Int) < (n : Int)) = true := by simpa using hkn
        have d2 : decide ((N : Int) < 10000) = false := by simp; omega
        have d3 : decide ((10000 : Int) ≤ (N : Int)) = true := by simp; omega
        go_wp2
        go_ret
        exact ⟨true, rfl, rfl, fun e => by cases e⟩
      · have d1 : decide ((k : Int) < (n : Int)) = false := by simpa using hkn
        by_cases hN : N < 10000
        · have d3 : decide ((10000 : Int) ≤ (N : Int)) = false := by simp; omega
          have hfin : n + spUp l n < 10000 ∧ ∀ x ∈ l, x.2.length < 10000 := by
            have h4 := H3.out
            have hkn2 : k = n := by omega
            rw [hkn2] at h4
            refine ⟨by omega, fun x hx => ?_⟩
            obtain ⟨i, hi, rfl⟩ := pAt_of hx
            have := spUp_le (l := l) (i := i) (n := n) (by have := HLEN.out; omega)
            omega
          have HFIN := Lib.hid hfin
          clear hfin
          go_wp2
          go_ret
          exact ⟨false, rfl, rfl, fun _ => HFIN.out⟩
        · have d3 : decide ((10000 : Int) ≤ (N : Int)) = true := by simp; omega
          go_wp2
          go_ret
          exact ⟨true, rfl, rfl, fun e => by cases e⟩
end Go.Proofs.Ythmjanhdjchdbaa
