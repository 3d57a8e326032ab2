/- The landed cover: what its block holds; size, HasPrefix, Sure. -/
import Derived.Test.YtjnbilcanfhkjaaOSpec
import Derived.Test.YtjnbilcanfhkjaaTNew
import Derived.Test.YtjnbilcanfhkjaaKEqual
import Derived.Deep.QuietTactic
import Derived.BigQuiet
import Derived.Deep.DeepCutAuto
namespace Go.Proofs.Ytjnbilcanfhkjaa
open Go.RowKit Go.Maps Go.WideMaps

/-- A cover of these tokens lies there. -/
def CovAt (w : World) (b : Nat) (L : List Nm) : Prop := ∃ A c bt, Blk w b 49 #[.slice A L.length c, .pointer (some ⟨bt, 0, none⟩)] ∧ RowsSee w A L.length L ∧ L.length ≤ c ∧ TrieAt w bt 0 L
theorem TrieAt.base {w : World} {b base base' : Nat} {L : List Nm} (h : TrieAt w b base L) (hb : base' ≤ base) : TrieAt w b base' L := by
  obtain ⟨T, X, M, h1, h2, h3, h4⟩ := h
  exact ⟨T, X, M, h1, h2, fun j hj => Nat.le_trans hb (h3 j hj), h4⟩
theorem CovAt.below {w w' : World} {b : Nat} {L : List Nm} (h : CovAt w b L) (hb : Below w.heap.size w w') : CovAt w' b L := by
  obtain ⟨A, c, bt, h1, h2, h3, h4⟩ := h
  exact ⟨A, c, bt, h1.below hb h1.lt, h2.below hb, h3, h4.below hb⟩
theorem CovAt.drewN {w : World} {b : Nat} {L : List Nm} (h : CovAt w b L) (q : Nat) : CovAt (w.drewN q) b L := h.below (below_drewN (Below.refl _ _) q)

set_option maxHeartbeats 4000000 in
set_option maxRecDepth 100000 in
theorem size_any {w : World} {b : Nat} {L : List Nm} (h : CovAt w b L) (i : Int) :
    Calls Try.prog 27 #[.pointer (some ⟨b, 0, none⟩), .int .i64 i] w fun e w' => e = .returned (.int .i64 ((tokI L i).length : Nat)) ∧ w' = w := by
  obtain ⟨A, c, bt, hb, hr, hc, _⟩ := h
  have c0 := hb.cell 0
  simp only [List.getElem?_toArray, List.getElem?_cons_zero] at c0
  obtain ⟨n, hn⟩ : ∃ n, n = L.length := ⟨_, rfl⟩
  rw [← hn] at c0 hr
  have HR := Lib.hid hr
  obtain ⟨R, hR⟩ : ∃ R : Nat, R = (tokI L i).length := ⟨_, rfl⟩
  rw [← hR]
  unfold tokI at hR
  rw [← hn] at hR
  clear hb hr hc
  have HN := Lib.hid hn
  clear hn
  by_cases h0 : i < 0
  · have d1 : decide (i < 0) = true := decide_eq_true h0
    have d1' : i < 0 := h0
    rw [if_neg (by omega)] at hR
    have HRR := Lib.hid hR
    clear hR
    go_enter Try.func27, Try.ntmps27
    go_wp2
    go_ret
    exact ⟨by rw [HRR.out]; rfl, rfl⟩
  · have d1 : decide (i < 0) = false := decide_eq_false h0
    by_cases h1 : i < (n : Int)
    · have d2 : decide ((n : Int) ≤ i) = false := decide_eq_false (by omega)
      obtain ⟨T, rfl⟩ : ∃ T : Nat, i = T := ⟨i.toNat, by omega⟩
      obtain ⟨x, hx⟩ : ∃ x, L[T]? = some x := ⟨_, List.getElem?_eq_getElem (by have := HN.out; omega)⟩
      obtain ⟨pa, Ax, cx, rfl, ea, ecx, ex⟩ := HR.out.at_ T x hx
      have p0 : (0 : Int) ≤ (T : Int) := by omega
      rw [if_pos ⟨p0, h1⟩, Int.toNat_natCast, List.getD_eq_getElem?_getD, hx] at hR
      have hRR : R = x.length := hR
      have HRR := Lib.hid hRR
      clear hR hx ex hRR
      go_enter Try.func27, Try.ntmps27
      go_wp2
      go_ret
      exact ⟨by rw [HRR.out]; rfl, rfl⟩
    · have d2 : decide ((n : Int) ≤ i) = true := decide_eq_true (by omega)
      rw [if_neg (by omega)] at hR
      have HRR := Lib.hid hR
      clear hR
      go_enter Try.func27, Try.ntmps27
      go_wp2
      go_ret
      exact ⟨by rw [HRR.out]; rfl, rfl⟩

set_option maxHeartbeats 4000000 in
set_option maxRecDepth 100000 in
theorem prefix_any (w : World) (A B : Option Addr) (n m ca cb : Nat) (x s : Nm) (ha : BytesIn w A n x) (hb : BytesIn w B m s) (hca : n ≤ ca) :
    Calls Try.prog 28 #[.slice A n ca, .slice B m cb] w fun e w' => e = .returned (.bool (decide (m ≤ n) && decide (x.take m = s))) ∧ w' = w := by
  by_cases h : m ≤ n
  · have d1 : decide ((m : Int) ≤ (n : Int)) = true := by simpa using h
    have d1n : decide (m ≤ n) = true := by simpa using h
    have hs := slice_to w A n ca m (by omega)
    have heq := equal_any w A B m m ca cb (x.take m) s (ha.upto m h) hb
    obtain ⟨r, hr⟩ : ∃ r, r = decide (x.take m = s) := ⟨_, rfl⟩
    rw [← hr] at heq ⊢
    have HE := Lib.hid heq
    clear ha hb heq hr
    go_enter Try.func28, Try.ntmps28
    go_wp2_with fail
    refine HE.out.mono ?_
    rintro e w2 ⟨rfl, rfl⟩
    go_wp2
    go_ret
    exact ⟨by rw [d1n, Bool.true_and]; rfl, rfl⟩
  · have d1 : decide ((m : Int) ≤ (n : Int)) = false := by simp; omega
    have d1n : decide (m ≤ n) = false := by simp; omega
    clear ha hb
    go_enter Try.func28, Try.ntmps28
    go_wp2
    go_ret
    exact ⟨by rw [d1n, Bool.false_and]; rfl, rfl⟩

theorem sure_eq {L : List Nm} {s x : Nm} {T J : Nat} (hx : L[T]? = some x) (hJ : J < x.length) (h0 : 0 < s.length) : sureB L s (T : Int) (J : Int) = (decide (s.length ≤ x.length - J) && decide ((x.drop J).take s.length = s)) := by
  have hT := (List.getElem?_eq_some_iff.1 hx).1
  unfold sureB mayB
  rw [Int.toNat_natCast, List.getD_eq_getElem?_getD, hx, Int.toNat_natCast]
  simp only [Option.getD_some]
  rw [Bool.eq_iff_iff]
  simp only [Bool.and_eq_true, decide_eq_true_eq, beq_iff_eq]
  constructor
  · rintro ⟨_, _, ⟨_, _, _, h4⟩, h5⟩
    have hle : s.length ≤ x.length - J := by omega
    rw [show min (x.length - J) s.length = s.length by omega, List.take_length] at h4
    exact ⟨hle, h4⟩
  · rintro ⟨h1, h2⟩
    refine ⟨by omega, by omega, ⟨by omega, by omega, h0, ?_⟩, by omega⟩
    rw [show min (x.length - J) s.length = s.length by omega, List.take_length, h2]
theorem sure_in {L : List Nm} {s : Nm} {t i : Int} (h : sureB L s t i = true) : 0 < s.length ∧ 0 ≤ i ∧ i < ((tokI L t).length : Int) := by
  unfold sureB at h
  simp only [Bool.and_eq_true, decide_eq_true_eq] at h
  obtain ⟨h1, h2, h3, _⟩ := h
  obtain ⟨q1, q2, q3⟩ := mayB_in h3
  unfold tokI
  rw [if_pos ⟨h1, h2⟩]
  exact ⟨q3, q1, q2⟩
theorem size_quiet {w : World} {b : Nat} {L : List Nm} (h : CovAt w b L) (i : Int) {Z : Nat} (hZ : (tokI L i).length = Z) {q : Nat} :
    Calls Try.prog 27 #[.pointer (some ⟨b, 0, none⟩), .int .i64 i] (w.drewN q) fun e w' => e = .returned (.int .i64 (Z : Int)) ∧ ∃ m, w' = w.drewN m := by
  have h1 := size_any (h.drewN q) i
  rw [hZ] at h1
  exact h1.mono fun e w' ⟨he, hw⟩ => ⟨he, q, hw⟩
theorem prefix_quiet {w : World} (A B : Option Addr) (n m ca cb : Nat) (x s : Nm) (ha : BytesIn w A n x) (hb : BytesIn w B m s) (hca : n ≤ ca) {r : Bool} (hr : (decide (m ≤ n) && decide (x.take m = s)) = r) {q : Nat} :
    Calls Try.prog 28 #[.slice A n ca, .slice B m cb] (w.drewN q) fun e w' => e = .returned (.bool r) ∧ ∃ m, w' = w.drewN m := by
  have h1 := prefix_any (w.drewN q) A B n m ca cb x s (ha.drewN q) (hb.drewN q) hca
  rw [hr] at h1
  exact h1.mono fun e w' ⟨he, hw⟩ => ⟨he, q, hw⟩

set_option maxHeartbeats 4000000 in
set_option maxRecDepth 100000 in
theorem psure_any {w : World} {b : Nat} {L : List Nm} (h : CovAt w b L) (B : Option Addr) (m cb : Nat) (s : Nm) (hbs : BytesIn w B m s) (t i : Int) :
    Calls Try.prog 18 #[.pointer (some ⟨b, 0, none⟩), .slice B m cb, .agg #[.int .i64 t, .int .i64 i]] w fun e w' => e = .returned (.bool (sureB L s t i)) ∧ Below w.heap.size w w' := by
  obtain ⟨W, hW⟩ : ∃ W, W = w.alloc (.cells #[.int .i64 t, .int .i64 i] 26) := ⟨_, rfl⟩
  have hB : Blk W w.heap.size 26 #[.int .i64 t, .int .i64 i] := by rw [hW]; exact Blk.new _ _ _
  have hb1 : Below w.heap.size w W := by rw [hW]; exact (Below.refl _ w).alloc (Nat.le_refl _) _
  have e0 : ∀ q, (W.drewN q).cell? ⟨w.heap.size, 0, none⟩ = some (.int .i64 t) := fun _ => hB.cell 0
  have e1 : ∀ q, (W.drewN q).cell? ⟨w.heap.size, 1, none⟩ = some (.int .i64 i) := fun _ => hB.cell 1
  have hsl : s.length = m := by have := hbs.2.1.len; simpa using this
  have hm63 : m ≤ 9223372036854775807 := hbs.1
  obtain ⟨R, hR⟩ : ∃ R, R = sureB L s t i := ⟨_, rfl⟩
  rw [← hR]
  have HW := Lib.hid hW
  have HBS := Lib.hid (hbs.below hb1)
  have HB1 := Lib.hid hb1
  have hc1 := h.below hb1
  have HC := Lib.hid hc1
  obtain ⟨A, c, bt, hb, hr, hc, _⟩ := hc1
  have c0 : ∀ q, (W.drewN q).cell? ⟨b, 0, none⟩ = some (.slice A L.length c) := fun _ => hb.cell 0
  have HR0 := Lib.hid hr
  have HH := Lib.hid h
  have HRR := Lib.hid hR
  have HSL := Lib.hid hsl
  clear hW hbs hb1 hB hb hr hc h hR hsl
  by_cases h0 : m = 0
  · have d1 : decide ((0 : Int) < (m : Int)) = false := by simp; omega
    have d1n : decide (0 < m) = false := by simp; omega
    have hf : R = false := by
      rw [HRR.out]
      cases e : sureB L s t i with
      | false => rfl
      | true => have := (sure_in e).1; have := HSL.out; omega
    clear h0
    go_enter Try.func18, Try.ntmps18
    go_upto_region 1 with fail
    rw [← HW.out]
    go_quiet (fail)
    go_wp2
    go_ret
    exact ⟨by first | rfl | (rw [hf]; rfl), below_drewN HB1.out _⟩
  · have d1 : decide ((0 : Int) < (m : Int)) = true := by simp; omega
    have d1n : decide (0 < m) = true := by simp; omega
    by_cases h2 : 0 ≤ i
    · have d2 : decide ((0 : Int) ≤ i) = true := decide_eq_true h2
      obtain ⟨Z, hZ⟩ : ∃ Z, Z = (tokI L t).length := ⟨_, rfl⟩
      by_cases h3 : i < (Z : Int)
      · have d3 : decide (i < (Z : Int)) = true := decide_eq_true h3
        obtain ⟨J, rfl⟩ : ∃ J : Nat, i = J := ⟨i.toNat, by omega⟩
        have ht : 0 ≤ t ∧ t < (L.length : Int) := by
          rcases Decidable.em (0 ≤ t ∧ t < (L.length : Int)) with h | h
          · exact h
          · rw [hZ] at h3
            unfold tokI at h3
            rw [if_neg h] at h3
            simp at h3
            omega
        obtain ⟨T, rfl⟩ : ∃ T : Nat, t = T := ⟨t.toNat, by omega⟩
        obtain ⟨x, hx⟩ : ∃ x, L[T]? = some x := ⟨_, List.getElem?_eq_getElem (by omega)⟩
        obtain ⟨pa, Ax, cx, rfl, ea, ecx, ex⟩ := HR0.out.at_ T x hx
        have hZx : Z = x.length := by
          rw [hZ]
          unfold tokI
          rw [if_pos ht, Int.toNat_natCast, List.getD_eq_getElem?_getD, hx]
          rfl
        subst hZx
        have hJ : J < x.length := by omega
        have eaq : ∀ q, (W.drewN q).cell? (pa.add T) = some (.slice Ax x.length cx) := fun _ => ea
        have hs := fun q => slice_from (W.drewN q) Ax x.length cx J (by omega)
        have hbx := ex.sub ecx J x.length (by omega) (Nat.le_refl _)
        rw [List.take_length] at hbx
        have hZ2 : (tokI L (T : Int)).length = x.length := hZ.symm
        have hreq := sure_eq (s := s) hx hJ (by rw [HSL.out]; omega)
        rw [HSL.out, ← HRR.out] at hreq
        have HREQ := Lib.hid hreq.symm
        have HBX := Lib.hid hbx
        have HZ2 := Lib.hid hZ2
        have HECX : Hid (x.length - J ≤ cx - J) := Lib.hid (by omega)
        have h1t := ht.1
        have h2t := ht.2
        have dT : decide ((T : Int) < (L.length : Int)) = true := decide_eq_true ht.2
        clear hx ea ex hbx hreq hZ2 hZ ht h2 ecx
        go_enter Try.func18, Try.ntmps18
        go_upto_region 1 with fail
        rw [← HW.out]
        go_quiet (first | (go_at_call 27; refine size_quiet HC.out (T : Int) HZ2.out) | (go_at_call 28; refine prefix_quiet _ B (x.length - J) m _ cb (x.drop J) s HBX.out HBS.out HECX.out HREQ.out))
        go_wp2
        all_goals
          go_ret
          exact ⟨rfl, below_drewN HB1.out _⟩
      · have d3 : decide (i < (Z : Int)) = false := decide_eq_false h3
        have hf : R = false := by
          rw [HRR.out]
          cases e : sureB L s t i with
          | false => rfl
          | true => have := (sure_in e).2.2; omega
        have HZ := Lib.hid hZ.symm
        clear hZ h0
        go_enter Try.func18, Try.ntmps18
        go_upto_region 1 with fail
        rw [← HW.out]
        go_quiet (first | (go_at_call 27; refine size_quiet HC.out t HZ.out))
        go_wp2
        go_ret
        exact ⟨by first | rfl | (rw [hf]; rfl), below_drewN HB1.out _⟩
    · have d2 : decide ((0 : Int) ≤ i) = false := decide_eq_false h2
      have hf : R = false := by
        rw [HRR.out]
        cases e : sureB L s t i with
        | false => rfl
        | true => exact absurd (sure_in e).2.1 h2
      clear h0
      go_enter Try.func18, Try.ntmps18
      go_upto_region 1 with fail
      rw [← HW.out]
      go_quiet (fail)
      go_wp2
      go_ret
      exact ⟨by first | rfl | (rw [hf]; rfl), below_drewN HB1.out _⟩
end Go.Proofs.Ytjnbilcanfhkjaa
