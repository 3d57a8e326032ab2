/- The landed sets: And's function that moves. -/
import Derived.Test.YtkligdaademakaaSoKids
import Derived.Laws.Alloc2
namespace Go.Proofs.Ytkligdaademakaa
open Go.RowKit Go.Maps Go.WideMaps Go.Shelf
set_option linter.unusedSimpArgs false

/-- Sets in a row of one's own, whose slice lies in block g. -/
structure RowK (Q : MvP) (w : World) (F : Nat → Prop) (g : Nat) (A : Option Addr) (c : Nat) (X : List SV) : Prop where
  blk : Blk w g 60 #[.slice A X.length c]
  src : Src w A X.length (X.map fun x => Value.pointer x.p)
  few : X.length ≤ 1000000
  kids : Kids Q w X
  inF : ∀ x ∈ X, ∀ b, x.F b → F b ∧ b ≠ g
  mem : F g
  row : ∀ ad, A = some ad → 0 < X.length → F ad.block ∧ ad.block ≠ g ∧ ∀ x ∈ X, ¬ x.F ad.block
  lt : ∀ i, F i → i < w.heap.size
theorem RowK.keep {Q : MvP} (hQ : MovesOk Q) {w w' : World} {F : Nat → Prop} {g : Nat} {A : Option Addr} {c : Nat} {X : List SV} (h : RowK Q w F g A c X) (hk : ∀ b, F b → w'.heap[b]? = w.heap[b]?) (hs : w.heap.size ≤ w'.heap.size) : RowK Q w' F g A c X where
  blk := (hk g h.mem).trans h.blk
  src := h.src.keep fun ad e h0 => hk _ (h.row ad e h0).1
  few := h.few
  kids := h.kids.keep hQ (fun x hx b hb => hk b (h.inF x hx b hb).1) hs
  inF := h.inF
  mem := h.mem
  row := h.row
  lt := fun i hi => Nat.lt_of_lt_of_le (h.lt i hi) hs
/-- They have moved; besides, the result's block was written. -/
theorem RowK.moved {Q : MvP} (hQ : MovesOk Q) {w w1 w2 w3 : World} {F : Nat → Prop} {g : Nat} {A : Option Addr} {c : Nat} {X Y : List SV} {d : Int} (h : RowK Q w F g A c X) (h1 : Below w.heap.size w w1) (hr : w.heap.size < w1.heap.size) {G : Nat → Prop} (hm : Moved Q G w1 w2 X Y d) (hG : ∀ b, G b → kidsF X b ∨ w.heap.size ≤ b) (h3 : Kept (fun i => i = w.heap.size) w2 w3) : RowK Q w3 (fun i => F i ∨ w.heap.size ≤ i ∧ i < w3.heap.size) g A c Y ∧ Kept F w w3 := by
  have hz1 := h1.size
  have hz2 := hm.kept.size
  have hz3 := h3.size
  have hng : ¬ ∃ x ∈ X, x.F g := fun ⟨x, hx, hf⟩ => (h.inF x hx g hf).2 rfl
  have hkept : Kept F w w3 := ((Kept.below h1).trans hm.kept (fun i hi hg => (hG i hg).elim (fun ⟨x, hx, hf⟩ => (h.inF x hx i hf).1) (fun e => by omega))).trans h3 (fun i hi e => by omega)
  have hsame : ∀ b, b < w.heap.size → (¬ ∃ x ∈ X, x.F b) → w3.heap[b]? = w.heap[b]? := fun b hb hn => (h3.block b (by omega) (by omega)).trans ((hm.kept.block b (by omega) (fun e => (hG b e).elim hn (fun e => by omega))).trans (h1.block b hb))
  have hyF : ∀ y ∈ Y, ∀ b, y.F b → (∃ x ∈ X, x.F b) ∨ w.heap.size < b := fun y hy b hb => (hm.inF y hy b hb).imp id (fun e => by omega)
  have hxl : ∀ b, (∃ x ∈ X, x.F b) → b < w.heap.size := fun b ⟨x, hx, hf⟩ => h.lt b (h.inF x hx b hf).1
  refine ⟨⟨?_, ?_, by rw [hm.len]; exact h.few, hm.kids.keep hQ (fun y hy b hb => h3.block b ((hm.kids.each y hy).lt b hb) (fun (e : b = w.heap.size) => ?_)) hz3, fun y hy b hb => ⟨?_, ?_⟩, .inl h.mem, fun ad e h0 => ⟨.inl (h.row ad e (by rw [← hm.len]; exact h0)).1, (h.row ad e (by rw [← hm.len]; exact h0)).2.1, fun y hy hb => ?_⟩, fun i hi => ?_⟩, hkept⟩
  · rw [hm.len]
    exact (hsame g (h.lt g h.mem) hng).trans h.blk
  · rw [hm.len, hm.ptrs]
    exact h.src.keep fun ad e h0 => hsame _ (h.lt _ (h.row ad e h0).1) (fun ⟨x, hx, hf⟩ => (h.row ad e h0).2.2 x hx hf)
  · rcases hyF y hy b hb with h2 | h2
    · have := hxl b h2; omega
    · omega
  · rcases hyF y hy b hb with ⟨x, hx, hf⟩ | h2
    · exact .inl (h.inF x hx b hf).1
    · have := (hm.kids.each y hy).lt b hb
      exact .inr ⟨by omega, by omega⟩
  · rcases hyF y hy b hb with ⟨x, hx, hf⟩ | h2
    · exact (h.inF x hx b hf).2
    · have := h.lt g h.mem; omega
  · rcases hyF y hy _ hb with ⟨x, hx, hf⟩ | h2
    · exact (h.row ad e (by rw [← hm.len]; exact h0)).2.2 x hx hf
    · have := h.lt _ (h.row ad e (by rw [← hm.len]; exact h0)).1; omega
  · rcases hi with hi | hi
    · have := h.lt i hi; omega
    · exact hi.2
/-- A set that stands at a. -/
theorem stands_at {Q : MvP} {w : World} {F : Nat → Prop} {p : Option Addr} {l : List Int} {a : Int} (h : SetLv Q w F p l) (ha : a ∈ l) (hl : ∀ z ∈ l, a ≤ z) : ∃ b m fv, p = some ⟨b, 0, none⟩ ∧ SetB Q w F b a m fv l ∧ RunOf l a m := by
  rcases h with ⟨_, rfl, _⟩ | ⟨b, a', m, fv, hp, h⟩
  · cases ha
  · rcases h.st with ⟨_, rfl⟩ | ⟨h1, h2⟩
    · cases ha
    · have h3 := h1.first a ha
      have h4 := hl a' h1.mem
      obtain rfl : a' = a := by omega
      exact ⟨b, m, fv, hp, h, h1⟩
def AndMv (Q : MvP) (w : World) (F : Nat → Prop) (fv : Value) (M : List Int) : Prop :=
  ∃ g A c X, fv = .func (.func 37) #[] #[at0 g] ∧ RowK Q w F g A c X ∧ 0 < X.length ∧ M = andL (X.map SV.l)
set_option maxHeartbeats 8000000 in
set_option maxRecDepth 100000 in
theorem and1_any {Q Q' : MvP} (hQ : MovesOk Q) (hS : ∀ {w F fv M}, AndMv Q w F fv M → Q' w F fv M) {w : World} {F : Nat → Prop} {fv : Value} {M : List Int} {g : Nat} {A : Option Addr} {c : Nat} {X : List SV} (hfv : fv = .func (.func 37) #[] #[at0 g]) (h : RowK Q w F g A c X) (h0 : 0 < X.length) (hM : M = andL (X.map SV.l)) (d : Int) (hd : fits64 d) :
    Calls Try.prog 37 #[.int .i64 d, at0 g] w (MoveOut Q' w F fv M d) := by
  have hX0 : X.map SV.l ≠ [] := fun e => by rw [List.map_eq_nil_iff] at e; rw [e] at h0; simp at h0
  have hups : ∀ l ∈ X.map SV.l, Up l := fun l hl => by
    obtain ⟨x, hx, rfl⟩ := List.mem_map.1 hl
    exact (h.kids.each x hx).up
  have hUM : Up M := by rw [hM]; exact up_and hups
  have hmem : ∀ z, z ∈ M ↔ ∀ x ∈ X, z ∈ x.l := fun z => by
    rw [hM, mem_andL hups hX0]
    simp
  obtain ⟨w1, hw1⟩ : ∃ z, z = w.alloc (.cells #[.int .i64 0, .int .i64 0] 68) := ⟨_, rfl⟩
  have hb1 : Below w.heap.size w w1 := by rw [hw1]; exact (Below.refl _ w).alloc (Nat.le_refl _) _
  have hz1 : w1.heap.size = w.heap.size + 1 := by rw [hw1]; simp
  have hr1 : Blk w1 w.heap.size 68 #[.int .i64 0, .int .i64 0] := by rw [hw1]; exact Blk.new _ _ _
  have hk1 := h.keep hQ (w' := w1) (fun b hb => hb1.block b (h.lt b hb)) hb1.size
  obtain ⟨n, hn⟩ : ∃ n, n = X.length := ⟨_, rfl⟩
  have hfew := h.few
  have hbk := hk1.blk
  have hsrc := hk1.src
  rw [← hn] at h0 hbk hsrc hfew
  have hmeet := meet_any hQ hk1.kids A n c hsrc (fun ad e h2 => ⟨by have := hk1.lt _ (hk1.row ad e (by omega)).1; omega, (hk1.row ad e (by omega)).2.2⟩) h0 hfew d hd
  have y0 := hbk.cell 0
  simp only [List.getElem?_toArray, List.getElem?_cons_zero] at y0
  have hgl := h.lt g h.mem
  have H := Lib.hid h
  have HM := Lib.hid hM
  have HUM := Lib.hid hUM
  have HMEM := Lib.hid hmem
  have HB1 := Lib.hid hb1
  have HR1 := Lib.hid hr1
  have HMEET := Lib.hid hmeet
  have HW1 := Lib.hid hw1
  have HNN := Lib.hid hn
  have HFV := Lib.hid hfv
  rw [HW1.out] at y0
  clear h hX0 hups hM hUM hmem hb1 hr1 hk1 hn hbk hsrc hmeet hw1 hfv
  unfold at0
  go_enter Try.func37, Try.ntmps37
  go_wp2_with fail
  rw [← HW1.out]
  refine HMEET.out.mono ?_
  rintro e w2 (⟨rfl, hend, hk2⟩ | ⟨a, Y, rfl, hda, hfa, hleast, hmv, hat⟩)
  · have hng : ∀ i, (∃ x ∈ X, x.F i) → i < w.heap.size := fun i ⟨x, hx, hf⟩ => H.out.lt i (H.out.inF x hx i hf).1
    have hr2 : Blk w2 w.heap.size 68 #[.int .i64 0, .int .i64 0] := HR1.out.kept hk2 (fun e => by have := hng _ e; omega)
    have r0 := hr2.cell 0
    have r1 := hr2.cell 1
    have q0 := hr2.frozen 0
    have q1 := hr2.frozen 1
    simp only [List.getElem?_toArray, List.getElem?_cons_zero, List.getElem?_cons_succ] at r0 r1
    have HR2 := Lib.hid hr2
    have HKF : Hid (Kept F w w2) := Lib.hid ((Kept.below HB1.out).trans hk2 (fun i _ ⟨x, hx, hf⟩ => (H.out.inF x hx i hf).1))
    have HEND := Lib.hid hend
    clear hng hr2 hend hk2
    go_wp2
    refine bodyPost_ret (results_cell_row rfl _ _ w.heap.size 68 #[.int .i64 0, .int .i64 0] (0, 0) _ rfl ?_ Try.underlying68 rfl runCells) rfl ?_
    · have := (HR2.out.set_ 0 (.int .i64 0)).set_ 1 (.int .i64 0)
      unfold Blk at this
      simpa using this
    · exact ⟨0, 0, rfl, (HKF.out.setCell (.inr (by simp only; omega)) _).setCell (.inr (by simp only; omega)) _, .inl ⟨rfl, fun x hx => HEND.out x ((HMEM.out x).1 hx)⟩⟩
  · have hlen := hmv.len
    have hr0 : Blk w2 w.heap.size 68 #[.int .i64 0, .int .i64 0] := HR1.out.kept hmv.kept (fun ⟨x, hx, hf⟩ => by have := H.out.lt _ (H.out.inF x hx _ hf).1; omega)
    have hbk2 : Blk w2 g 60 #[.slice A n c] := ((H.out.keep hQ (w' := w1) (fun b hb => HB1.out.block b (H.out.lt b hb)) HB1.out.size).blk.kept hmv.kept (fun ⟨x, hx, hf⟩ => (H.out.inF x hx g hf).2 rfl)) |> (by rw [HNN.out]; exact ·)
    have hkid : ∀ k : Nat, k < n → ∃ y b m fv, Y[k]? = some y ∧ y.p = some ⟨b, 0, none⟩ ∧ SetB Q w2 y.F b a m fv y.l ∧ RunOf y.l a m := fun k hk => by
      have hky : Y[k]? = some (Y[k]'(by have := HNN.out; omega)) := List.getElem?_eq_getElem _
      obtain ⟨h1, h2⟩ := hat k _ (by have := HNN.out; omega) hky
      obtain ⟨b, m, fv, h3, h4, h5⟩ := stands_at (hmv.kids.each _ (List.mem_of_getElem? hky)) h1 h2
      exact ⟨_, b, m, fv, hky, h3, h4, h5⟩
    obtain ⟨ad, rfl⟩ : ∃ ad, A = some ad := by
      cases hA : A with
      | none => have := H.out.src.nil hA; have := HNN.out; omega
      | some ad => exact ⟨ad, rfl⟩
    have hcells : ∀ w' : World, (∀ i, i < w2.heap.size → w'.heap[i]? = w2.heap[i]?) → ∀ (k : Nat) (y : SV), Y[k]? = some y → w'.cell? (ad.add k) = some (.pointer y.p) := fun w' hw' k y hy => by
      have hsrc : Src w' (some ad) X.length (Y.map fun x => Value.pointer x.p) := by
        rw [hmv.ptrs]
        exact H.out.src.keep fun ad' e h2 => by
          cases e
          have h3 := H.out.row ad rfl h2
          have h4 := H.out.lt _ h3.1
          rw [hw' _ (by have := hmv.kept.size; omega), hmv.kept.block _ (by omega) (fun ⟨x, hx, hf⟩ => h3.2.2 x hx hf), HB1.out.block _ h4]
      exact hsrc.cells ad rfl k _ (by rw [List.getElem?_map, hy]; rfl)
    obtain ⟨v0, b0, m0, fv0, hy0, hp0, hs0, hrun0⟩ := hkid 0 h0
    have hz2 := hmv.kept.size
    obtain ⟨w3, hw3⟩ : ∃ z, z = w2.alloc (.cells #[.int .i64 a, .int .i64 m0] 68) := ⟨_, rfl⟩
    have hb3 : Below w2.heap.size w2 w3 := by rw [hw3]; exact (Below.refl _ w2).alloc (Nat.le_refl _) _
    have hz3 : w3.heap.size = w2.heap.size + 1 := by rw [hw3]; simp
    have hg3 : Blk w3 w2.heap.size 68 #[.int .i64 a, .int .i64 m0] := by rw [hw3]; exact Blk.new _ _ _
    have c0 := hbk2.cell 0
    have c1 := hcells w2 (fun _ _ => rfl) 0 v0 hy0
    have c2 := hs0.blk.cell 1
    have hbk3 := hbk2.below hb3 hbk2.lt
    have c3 := hbk3.cell 0
    have e0 : ad.add 0 = ad := by simp [Addr.add]
    rw [hp0, e0] at c1
    simp only [List.getElem?_toArray, List.getElem?_cons_zero, List.getElem?_cons_succ] at c0 c2 c3
    have HW3 := Lib.hid hw3
    have HB3 := Lib.hid hb3
    have HG3 := Lib.hid hg3
    have HR0 := Lib.hid hr0
    have HKID := Lib.hid hkid
    have HCELLS := Lib.hid hcells
    have HMV := Lib.hid hmv
    have HAT := Lib.hid hat
    have HLEAST := Lib.hid hleast
    have HRUN0 := Lib.hid hrun0
    have HLEN := Lib.hid hlen
    have p0 : (0 : Int) < (n : Int) := by omega
    have hm0 := hrun0.pos
    have hm02 := hrun0.wide
    have hm03 := hrun0.fit
    have hm04 := hrun0.low
    rw [HW3.out] at c3
    clear hlen hr0 hbk2 hkid hcells hy0 hp0 hs0 hrun0 hw3 hb3 hg3 hbk3 hmv hat hleast e0
    go_wp2
    rw [← HW3.out]
    rw [← HW3.out] at c3
    go_loopw [29] (fun iv wr => ∃ (k : Nat) (m : Int), iv = .int .i64 k ∧ k ≤ n ∧ Blk wr w2.heap.size 68 #[.int .i64 a, .int .i64 m] ∧ 0 < m ∧ m ≤ m0 ∧ (∀ (i : Nat) (y : SV) (z : Int), i < k → Y[i]? = some y → a ≤ z → z < a + m → z ∈ y.l) ∧ Kept (fun i => i = w2.heap.size) w3 wr) (fun iv _ => n - (intOf iv).toNat)
    case atStart => exact ⟨0, m0, rfl, Nat.zero_le _, HG3.out, hm0, Int.le_refl _, fun i y z hi => by omega, Kept.refl _ _⟩
    case round =>
      obtain ⟨k, m, rfl, hkn, hgm, hm1, hm2, hin, hk3⟩ := hrel
      have HGM := Lib.hid hgm
      have HIN := Lib.hid hin
      have HK3 := Lib.hid hk3
      have hz4 := hk3.size
      clear hgm hin hk3
      rcases Nat.lt_or_ge k n with hlt | hge
      · have hlt' : (k : Int) < (n : Int) := by omega
        have p1 : (0 : Int) ≤ (k : Int) := by omega
        have hw5 : IntKind.i64.wrap ((k : Int) + 1) = (k : Int) + 1 := IntWalk.i64_in _ (by omega)
        obtain ⟨y, bk, mk, fk, hyk, hpk, hsk, hrk⟩ := HKID.out k hlt
        have hsame : ∀ i, i < w2.heap.size → wr.heap[i]? = w2.heap[i]? := fun i hi => (HK3.out.block i (by omega) (fun (e : i = w2.heap.size) => by omega)).trans (HB3.out.block i hi)
        have x0 := HCELLS.out wr hsame k y hyk
        rw [hpk] at x0
        have hbk : Blk wr bk 71 #[.int .i64 a, .int .i64 mk, fk] := (hsame bk hsk.blk.lt).trans hsk.blk
        have x1 := hbk.cell 1
        have x2 := HGM.out.cell 1
        have z2 := HGM.out.frozen 1
        simp only [List.getElem?_toArray, List.getElem?_cons_zero, List.getElem?_cons_succ] at x1 x2
        have HYK := Lib.hid hyk
        have HRK := Lib.hid hrk
        have hmk := hrk.pos
        clear hyk hpk hsk hrk hsame hbk
        have HK4 : Hid (Kept (fun i => i = w2.heap.size) w3 (wr.setCell ⟨w2.heap.size, 1, none⟩ (.int .i64 (min m mk)))) := Lib.hid (HK3.out.setCell (.inl rfl) _)
        have HGM4 : Hid (Blk (wr.setCell ⟨w2.heap.size, 1, none⟩ (.int .i64 (min m mk))) w2.heap.size 68 #[.int .i64 a, .int .i64 (min m mk)]) := Lib.hid (by simpa using HGM.out.set_ 1 (.int .i64 (min m mk)))
        have HIN4 : Hid (∀ (i : Nat) (y : SV) (z : Int), i < k + 1 → Y[i]? = some y → a ≤ z → z < a + min m mk → z ∈ y.l) := Lib.hid fun i v z hi hv h1 h2 => by
          rcases Nat.lt_or_ge i k with h3 | h3
          · exact HIN.out i v z h3 hv h1 (by omega)
          · obtain rfl : i = k := by omega
            obtain rfl := Option.some.inj (HYK.out.symm.trans hv)
            exact HRK.out.all z h1 (by omega)
        by_cases hmm : mk < m
        · have hmin : min m mk = mk := by omega
          rw [hmin] at HK4 HGM4 HIN4
          have d1 : decide (mk < m) = true := decide_eq_true hmm
          clear hmin
          go_wp2
          go_region
          go_wp2
          go_roundw
          case rel => exact ⟨k + 1, mk, by go_num, by omega, HGM4.out, hmk, by omega, HIN4.out, HK4.out.drew⟩
          case measure => simp [intOf]; omega
        · have hmin : min m mk = m := by omega
          rw [hmin] at HK4 HGM4 HIN4
          have d1 : decide (mk < m) = false := decide_eq_false hmm
          clear hmin
          go_wp2
          go_region
          go_wp2
          go_roundw
          case rel => exact ⟨k + 1, m, by go_num, by omega, HGM4.out, hm1, by omega, HIN4.out, HK4.out.drew⟩
          case measure => simp [intOf]; omega
      · obtain rfl : k = n := by omega
        have hlz : ¬ ((k : Int) < (k : Int)) := by omega
        have g0 := HGM.out.cell 0
        have g1 := HGM.out.cell 1
        have hne : w.heap.size ≠ w2.heap.size := by have := HR0.out.lt; omega
        have hr3 : Blk wr w.heap.size 68 #[.int .i64 0, .int .i64 0] := (HR0.out.below HB3.out HR0.out.lt).kept HK3.out hne
        have r0 := hr3.cell 0
        have r1 := hr3.cell 1
        have q0 := hr3.frozen 0
        have q1 := hr3.frozen 1
        simp only [List.getElem?_toArray, List.getElem?_cons_zero, List.getElem?_cons_succ] at g0 g1 r0 r1
        have HR3 := Lib.hid hr3
        clear hr3 hne
        go_wp2
        refine bodyPost_ret (results_cell_row rfl _ _ w.heap.size 68 #[.int .i64 a, .int .i64 m] (0, 0) _ rfl ?_ Try.underlying68 rfl runCells) rfl ?_
        · have := (HR3.out.set_ 0 (.int .i64 a)).set_ 1 (.int .i64 m)
          unfold Blk at this
          simpa using this
        · obtain ⟨w5, hw5⟩ : ∃ z, z = (wr.setCell ⟨w.heap.size, 0, none⟩ (.int .i64 a)).setCell ⟨w.heap.size, 1, none⟩ (.int .i64 m) := ⟨_, rfl⟩
          rw [← hw5]
          have hz5 : w5.heap.size = wr.heap.size := by rw [hw5, size_setCell', size_setCell']
          have hk5 : Kept (fun i => i = w.heap.size) w2 w5 := by
            rw [hw5]
            have h1 : Kept (fun i => i = w.heap.size) w2 wr := (Kept.below HB3.out).trans HK3.out (fun i hi e => by omega)
            exact (h1.setCell (.inl rfl) _).setCell (.inl rfl) _
          obtain ⟨hrow, hkept⟩ := H.out.moved hQ HB1.out (by omega) HMV.out (fun b h => .inl h) hk5
          have hups : ∀ l ∈ Y.map SV.l, Up l := fun l hl => by
            obtain ⟨x, hx, rfl⟩ := List.mem_map.1 hl
            exact (HMV.out.kids.each x hx).up
          have hY0 : Y.map SV.l ≠ [] := fun e => by rw [List.map_eq_nil_iff] at e; have h1 := HLEN.out; have h2 := HNN.out; rw [e, List.length_nil] at h1; omega
          have hmemY : ∀ z, z ∈ andL (Y.map SV.l) ↔ ∀ y ∈ Y, z ∈ y.l := fun z => by
            rw [mem_andL hups hY0]
            simp
          have hsame : ∀ z, a ≤ z → ((∀ y ∈ Y, z ∈ y.l) ↔ ∀ x ∈ X, z ∈ x.l) := fun z hz => by
            constructor
            · intro q x hx
              obtain ⟨i, hi⟩ := List.getElem?_of_mem hx
              have h2 := (List.getElem?_eq_some_iff.1 hi).1
              have h3 := List.getElem?_eq_getElem (l := Y) (i := i) (by have := HLEN.out; omega)
              exact ((HMV.out.near i _ _ hi h3).same z hz).1 (q _ (List.mem_of_getElem? h3))
            · intro q y hy
              obtain ⟨i, hi⟩ := List.getElem?_of_mem hy
              have h2 := (List.getElem?_eq_some_iff.1 hi).1
              have h3 := List.getElem?_eq_getElem (l := X) (i := i) (by have := HLEN.out; omega)
              exact ((HMV.out.near i _ _ h3 hi).same z hz).2 (q _ (List.mem_of_getElem? h3))
          refine ⟨a, m, rfl, hkept, .inr ⟨⟨hm1, hm04, by omega, by omega, fun z hz => ?_, fun z h1 h2 => ?_⟩, _, andL (Y.map SV.l), hS ⟨g, _, c, Y, HFV.out, hrow, by have := HLEN.out; have := HNN.out; omega, rfl⟩, up_and hups, fun i hi => hi.imp id And.left, fun z hz => ?_⟩⟩
          · obtain ⟨h1, h2⟩ := (HUM.out.mem_from d z).1 hz
            exact HLEAST.out z ((HMEM.out z).1 h1) h2
          · refine (HUM.out.mem_from d z).2 ⟨(HMEM.out z).2 ((hsame z h1).1 fun y hy => ?_), by omega⟩
            obtain ⟨i, hi⟩ := List.getElem?_of_mem hy
            have h3 := (List.getElem?_eq_some_iff.1 hi).1
            exact HIN.out i y z (by have := HLEN.out; have := HNN.out; omega) hi h1 h2
          · rw [hmemY, HMEM.out]
            exact hsame z (by omega)
end Go.Proofs.Ytkligdaademakaa
