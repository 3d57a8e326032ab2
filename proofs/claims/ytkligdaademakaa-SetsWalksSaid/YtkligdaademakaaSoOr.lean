/- The landed sets: Or's function that moves. -/
import Derived.Test.YtkligdaademakaaSoAnd
namespace Go.Proofs.Ytkligdaademakaa
open Go.RowKit Go.Maps Go.WideMaps Go.Shelf
set_option linter.unusedSimpArgs false

theorem Moved.some_iff {Q : MvP} {G : Nat → Prop} {w0 w : World} {X Y : List SV} {d : Int} (h : Moved Q G w0 w X Y d) {z : Int} (hz : d ≤ z) : (∃ y ∈ Y, z ∈ y.l) ↔ ∃ x ∈ X, z ∈ x.l := by
  have hl := h.len
  constructor
  · rintro ⟨y, hy, q⟩
    obtain ⟨i, hi⟩ := List.getElem?_of_mem hy
    have h2 := (List.getElem?_eq_some_iff.1 hi).1
    have h3 := List.getElem?_eq_getElem (l := X) (i := i) (by omega)
    exact ⟨_, List.mem_of_getElem? h3, ((h.near i _ _ h3 hi).same z hz).1 q⟩
  · rintro ⟨x, hx, q⟩
    obtain ⟨i, hi⟩ := List.getElem?_of_mem hx
    have h2 := (List.getElem?_eq_some_iff.1 hi).1
    have h3 := List.getElem?_eq_getElem (l := Y) (i := i) (by omega)
    exact ⟨_, List.mem_of_getElem? h3, ((h.near i _ _ hi h3).same z hz).2 q⟩
/-- What Or has found among the first k: the run of the least one. -/
def Least (Z : List SV) (k : Nat) (d a m : Int) : Prop :=
  (m = 0 ∧ ∀ (i : Nat) (y : SV), i < k → Z[i]? = some y → y.l = []) ∨
  (d ≤ a ∧ ∃ (j : Nat) (y : SV), j < k ∧ Z[j]? = some y ∧ RunOf y.l a m ∧ ∀ (i : Nat) (v : SV) (z : Int), i < k → Z[i]? = some v → z ∈ v.l → a ≤ z)
theorem Least.leave {Z Z' : List SV} {k : Nat} {d a m : Int} {y : SV} (h : Least Z k d a m) (ho : ∀ i, i < k → Z'[i]? = Z[i]?) (hk : Z'[k]? = some y) (hy : ∀ z ∈ y.l, 0 < m ∧ a ≤ z) : Least Z' (k + 1) d a m := by
  rcases h with ⟨rfl, h1⟩ | ⟨h1, j, v, h2, h3, h4, h5⟩
  · refine .inl ⟨rfl, fun i u hi hu => ?_⟩
    rcases Nat.lt_or_ge i k with h2 | h2
    · exact h1 i u h2 (by rw [← ho i h2]; exact hu)
    · obtain rfl : i = k := by omega
      rw [hk] at hu
      cases hu
      exact List.eq_nil_iff_forall_not_mem.2 fun z hz => by have := (hy z hz).1; omega
  · refine .inr ⟨h1, j, v, by omega, by rw [ho j h2]; exact h3, h4, fun i u z hi hu hz => ?_⟩
    rcases Nat.lt_or_ge i k with h6 | h6
    · exact h5 i u z h6 (by rw [← ho i h6]; exact hu) hz
    · obtain rfl : i = k := by omega
      rw [hk] at hu
      cases hu
      exact (hy z hz).2
theorem Least.take {Z Z' : List SV} {k : Nat} {d a m D m' : Int} {y : SV} (h : Least Z k d a m) (ho : ∀ i, i < k → Z'[i]? = Z[i]?) (hk : Z'[k]? = some y) (hr : RunOf y.l D m') (hd : d ≤ D) (hm : m = 0 ∨ D < a) : Least Z' (k + 1) d D m' := by
  refine .inr ⟨hd, k, y, by omega, hk, hr, fun i u z hi hu hz => ?_⟩
  rcases Nat.lt_or_ge i k with h6 | h6
  · rw [ho i h6] at hu
    rcases h with ⟨h1, h2⟩ | ⟨h1, j, v, h2, h3, h4, h5⟩
    · rw [h2 i u h6 hu] at hz; cases hz
    · have h7 := h5 i u z h6 hu hz
      have h8 := h4.pos
      omega
  · obtain rfl : i = k := by omega
    rw [hk] at hu
    cases hu
    exact hr.first z hz
def OrMv (Q : MvP) (w : World) (F : Nat → Prop) (fv : Value) (M : List Int) : Prop :=
  ∃ g A c X, fv = .func (.func 42) #[] #[at0 g] ∧ RowK Q w F g A c X ∧ M = orL (X.map SV.l)
set_option maxHeartbeats 8000000 in
set_option maxRecDepth 100000 in
theorem or1_any {Q Q' : MvP} (hQ : MovesOk Q) (hS : ∀ {w F fv M}, OrMv Q w F fv M → Q' w F fv M) {w : World} {F : Nat → Prop} {fv : Value} {M : List Int} {g : Nat} {A : Option Addr} {c : Nat} {X : List SV} (hfv : fv = .func (.func 42) #[] #[at0 g]) (h : RowK Q w F g A c X) (hM : M = orL (X.map SV.l)) (d : Int) (hd : fits64 d) :
    Calls Try.prog 42 #[.int .i64 d, at0 g] w (MoveOut Q' w F fv M d) := by
  have hups : ∀ l ∈ X.map SV.l, Up l := fun l hl => by
    obtain ⟨x, hx, rfl⟩ := List.mem_map.1 hl
    exact (h.kids.each x hx).up
  have hUM : Up M := by rw [hM]; exact up_or hups
  have hmem : ∀ z, z ∈ M ↔ ∃ x ∈ X, z ∈ x.l := fun z => by
    rw [hM, mem_orL hups]
    simp only [List.mem_map]
    exact ⟨fun ⟨l, ⟨a, ha, e⟩, hz⟩ => ⟨a, ha, by rw [e]; exact hz⟩, fun ⟨x, hx, hz⟩ => ⟨_, ⟨x, hx, rfl⟩, hz⟩⟩
  obtain ⟨w1, hw1⟩ : ∃ z, z = (w.alloc (.cells #[.int .i64 0, .int .i64 0] 68)).alloc (.cells #[.int .i64 0, .int .i64 0] 68) := ⟨_, rfl⟩
  have hb1 : Below w.heap.size w w1 := by rw [hw1]; exact ((Below.refl _ w).alloc (Nat.le_refl _) _).alloc (by simp) _
  have hz1 : w1.heap.size = w.heap.size + 1 + 1 := by rw [hw1]; simp
  have hr1 : Blk w1 w.heap.size 68 #[.int .i64 0, .int .i64 0] := by rw [hw1]; exact (Blk.new _ _ _).alloc _
  have hf1 : Blk w1 (w.heap.size + 1) 68 #[.int .i64 0, .int .i64 0] := by
    rw [hw1]
    have := Blk.new (w.alloc (.cells #[.int .i64 0, .int .i64 0] 68)) 68 #[.int .i64 0, .int .i64 0]
    simpa using this
  have hk1 := h.keep hQ (w' := w1) (fun b hb => hb1.block b (h.lt b hb)) hb1.size
  obtain ⟨n, hn⟩ : ∃ n, n = X.length := ⟨_, rfl⟩
  have hfew := h.few
  have hbk := hk1.blk
  rw [← hn] at hbk hfew
  have y0 := hbk.cell 0
  simp only [List.getElem?_toArray, List.getElem?_cons_zero] at y0
  have hkl : ∀ b, kidsF X b → b < w.heap.size := fun b ⟨x, hx, hf⟩ => h.lt b (h.inF x hx b hf).1
  have hgl := h.lt g h.mem
  have hm1 : Moved Q (fun b => kidsF X b ∨ b = w.heap.size + 1) w1 w1 X X d := (Moved.start hk1.kids d).wide (fun _ h => .inl h)
  have H := Lib.hid h
  have HUM := Lib.hid hUM
  have HMEM := Lib.hid hmem
  have HB1 := Lib.hid hb1
  have HR1 := Lib.hid hr1
  have HF1 := Lib.hid hf1
  have HK1 := Lib.hid hk1
  have HKL := Lib.hid hkl
  have HM1 := Lib.hid hm1
  have HW1 := Lib.hid hw1
  have HNN := Lib.hid hn
  have HFV := Lib.hid hfv
  rw [HW1.out] at y0
  clear h hups hM hUM hmem hb1 hr1 hf1 hk1 hkl hm1 hn hbk hw1 hfv
  unfold at0
  go_enter Try.func42, Try.ntmps42
  go_wp2
  rw [← HW1.out]
  go_loopw [11] (fun iv wr => ∃ (k : Nat) (Z : List SV) (a m : Int), iv = .int .i64 k ∧ k ≤ n ∧ Moved Q (fun b => kidsF X b ∨ b = w.heap.size + 1) w1 wr X Z d ∧ Blk wr (w.heap.size + 1) 68 #[.int .i64 a, .int .i64 m] ∧ Least Z k d a m) (fun iv _ => n - (intOf iv).toNat)
  case atStart => exact ⟨0, X, 0, 0, rfl, Nat.zero_le _, HM1.out, HF1.out, .inl ⟨rfl, fun i y hi => by omega⟩⟩
  case round =>
    obtain ⟨k, Z, a, m, rfl, hkn, hmz, hbf, hleast⟩ := hrel
    have HMZ := Lib.hid hmz
    have HBF := Lib.hid hbf
    have HLE := Lib.hid hleast
    have hsz := hmz.kept.size
    clear hmz hbf hleast
    rcases Nat.lt_or_ge k n with hlt | hge
    · have hlt' : (k : Int) < (n : Int) := by omega
      have p0 : (0 : Int) ≤ (k : Int) := by omega
      have hw5 : IntKind.i64.wrap ((k : Int) + 1) = (k : Int) + 1 := IntWalk.i64_in _ (by omega)
      have hkx : X[k]? = some (X[k]'(by have := HNN.out; omega)) := List.getElem?_eq_getElem _
      have hkz : Z[k]? = some (Z[k]'(by have := HNN.out; have := HMZ.out.len; omega)) := List.getElem?_eq_getElem _
      obtain ⟨x, hx⟩ : ∃ x, x = X[k]'(by have := HNN.out; omega) := ⟨_, rfl⟩
      obtain ⟨y, hy⟩ : ∃ y, y = Z[k]'(by have := HNN.out; have := HMZ.out.len; omega) := ⟨_, rfl⟩
      rw [← hx] at hkx
      rw [← hy] at hkz
      have hnear := HMZ.out.near k x y hkx hkz
      have hset := HMZ.out.kids.each y (List.mem_of_getElem? hkz)
      obtain ⟨ad, rfl⟩ : ∃ ad, A = some ad := by
        cases hA : A with
        | none => have := H.out.src.nil hA; have := HNN.out; omega
        | some ad => exact ⟨ad, rfl⟩
      have hcell : wr.cell? (ad.add k) = some (.pointer y.p) := by
        rw [hnear.p]
        have hsrc : Src wr (some ad) X.length (X.map fun x => Value.pointer x.p) := HK1.out.src.keep fun ad' e h2 => by
          cases e
          have h3 := H.out.row ad rfl h2
          have h4 := H.out.lt _ h3.1
          exact HMZ.out.kept.block _ (by omega) (fun e => e.elim (fun ⟨x, hx, hf⟩ => h3.2.2 x hx hf) (fun e => by omega))
        exact hsrc.cells ad rfl k _ (by rw [List.getElem?_map, hkx]; rfl)
      have hto := seTo_any hQ hset d hd
      have HU := Lib.hid (hset.up.from d)
      obtain ⟨D, hD⟩ : ∃ z, z = (fromL d y.l).headD 0 := ⟨_, rfl⟩
      obtain ⟨I, hI⟩ : ∃ z, z = (fromL d y.l).isEmpty := ⟨_, rfl⟩
      unfold ToOut at hto
      rw [← hD, ← hI] at hto
      have HTO := Lib.hid hto
      have HD := Lib.hid hD
      have HI := Lib.hid hI
      have HKZ := Lib.hid hkz
      have HUY := Lib.hid hset.up
      clear hkx hkz hx hy hnear hset hto hD hI
      go_wp2_with fail
      refine HTO.out.mono ?_
      rintro e w2 ⟨rfl, F', h1, h2, h3⟩
      have HP := Lib.hid (And.intro h1 (And.intro h2 h3))
      have hzy : w.heap.size + 1 < wr.heap.size := by omega
      have hbf2 : Blk w2 (w.heap.size + 1) 68 #[.int .i64 a, .int .i64 m] := HBF.out.kept h2 (fun e => by
        rcases HMZ.out.inF y (List.mem_of_getElem? HKZ.out) _ e with h4 | h4
        · have := HKL.out _ h4; omega
        · omega)
      have HBF2 := Lib.hid hbf2
      have hmd : Moved Q (fun b => kidsF X b ∨ b = w.heap.size + 1) w1 w2 X (Z.set k ⟨y.p, fromL d y.l, F'⟩) d := HMZ.out.turn hQ HKZ.out h1 h2 h3 (Int.le_refl d)
      have HMD := Lib.hid hmd
      have f0 := hbf2.cell 0
      have f1 := hbf2.cell 1
      have z0 := hbf2.frozen 0
      have z1 := hbf2.frozen 1
      simp only [List.getElem?_toArray, List.getElem?_cons_zero, List.getElem?_cons_succ] at f0 f1
      have hself : (Z.set k ⟨y.p, fromL d y.l, F'⟩)[k]? = some ⟨y.p, fromL d y.l, F'⟩ := List.getElem?_set_self (List.getElem?_eq_some_iff.1 HKZ.out).1
      have HSELF := Lib.hid hself
      have hother : ∀ i, i < k → (Z.set k (⟨y.p, fromL d y.l, F'⟩ : SV))[i]? = Z[i]? := fun i hi => List.getElem?_set_ne (by omega)
      have HOTHER := Lib.hid hother
      clear h1 h2 h3 hbf2 hmd hself hother
      cases I with
      | true =>
        have hnil : fromL d y.l = [] := List.isEmpty_iff.1 HI.out.symm
        have HLE2 : Hid (Least (Z.set k ⟨y.p, fromL d y.l, F'⟩) (k + 1) d a m) := Lib.hid (HLE.out.leave HOTHER.out HSELF.out (fun z (hz : z ∈ fromL d y.l) => by rw [hnil] at hz; cases hz))
        clear hnil
        go_wp2
        go_roundw
        case rel => exact ⟨k + 1, _, a, m, by go_num, by omega, HMD.out, HBF2.out, HLE2.out⟩
        case measure => simp [intOf]; omega
      | false =>
        obtain ⟨q1, q2⟩ := HU.out.head HI.out.symm
        rw [← HD.out] at q1 q2
        have q3 := ((HUY.out.mem_from d D).1 q1).2
        obtain ⟨bk, mk, fk, hpk, hsk, hrk⟩ := stands_at HP.out.1 q1 q2
        have c0 := hsk.blk.cell 0
        have c1 := hsk.blk.cell 1
        simp only [List.getElem?_toArray, List.getElem?_cons_zero, List.getElem?_cons_succ] at c0 c1
        obtain ⟨p, l, Fy⟩ := y
        simp only at hpk
        subst hpk
        have HRK := Lib.hid hrk
        have HQ2 := Lib.hid q2
        have hw3 : Moved Q (fun b => kidsF X b ∨ b = w.heap.size + 1) w1 ((w2.setCell ⟨w.heap.size + 1, 0, none⟩ (.int .i64 D)).setCell ⟨w.heap.size + 1, 1, none⟩ (.int .i64 mk)) X (Z.set k ⟨some ⟨bk, 0, none⟩, fromL d l, F'⟩) d := HMD.out.wrote hQ (.inr rfl) (by omega) (fun e => by have := HKL.out _ e; omega) (((Kept.refl (fun i => i = w.heap.size + 1) w2).setCell (.inl rfl) _).setCell (.inl rfl) _)
        have hbf3 : Blk ((w2.setCell ⟨w.heap.size + 1, 0, none⟩ (.int .i64 D)).setCell ⟨w.heap.size + 1, 1, none⟩ (.int .i64 mk)) (w.heap.size + 1) 68 #[.int .i64 D, .int .i64 mk] := by simpa using (HBF2.out.set_ 0 (.int .i64 D)).set_ 1 (.int .i64 mk)
        have HMD3 := Lib.hid hw3
        have HBF3 := Lib.hid hbf3
        clear hrk hsk q1 q2 hw3 hbf3
        by_cases hm0 : m = 0
        · have d1 : (m == 0) = true := by simpa using hm0
          have HLE2 : Hid (Least (Z.set k ⟨some ⟨bk, 0, none⟩, fromL d l, F'⟩) (k + 1) d D mk) := Lib.hid (HLE.out.take HOTHER.out HSELF.out HRK.out q3 (.inl hm0))
          clear hm0
          go_wp2
          go_roundw
          case rel => exact ⟨k + 1, _, D, mk, by go_num, by omega, HMD3.out, HBF3.out, HLE2.out⟩
          case measure => simp [intOf]; omega
        · have d1 : (m == 0) = false := by simpa using hm0
          by_cases hda : D < a
          · have d2 : decide (D < a) = true := decide_eq_true hda
            have HLE2 : Hid (Least (Z.set k ⟨some ⟨bk, 0, none⟩, fromL d l, F'⟩) (k + 1) d D mk) := Lib.hid (HLE.out.take HOTHER.out HSELF.out HRK.out q3 (.inr hda))
            go_wp2
            go_roundw
            case rel => exact ⟨k + 1, _, D, mk, by go_num, by omega, HMD3.out, HBF3.out, HLE2.out⟩
            case measure => simp [intOf]; omega
          · have d2 : decide (D < a) = false := decide_eq_false hda
            have hmp : 0 < m := by
              rcases HLE.out with ⟨h1, _⟩ | ⟨_, _, _, _, _, h1, _⟩
              · omega
              · exact h1.pos
            have HLE2 : Hid (Least (Z.set k ⟨some ⟨bk, 0, none⟩, fromL d l, F'⟩) (k + 1) d a m) := Lib.hid (HLE.out.leave HOTHER.out HSELF.out (fun z hz => ⟨hmp, by have := HQ2.out z hz; omega⟩))
            go_wp2
            go_roundw
            case rel => exact ⟨k + 1, _, a, m, by go_num, by omega, HMD.out, HBF2.out, HLE2.out⟩
            case measure => simp [intOf]; omega
    · obtain rfl : k = n := by omega
      have hlz : ¬ ((k : Int) < (k : Int)) := by omega
      have g0 := HBF.out.cell 0
      have g1 := HBF.out.cell 1
      have hr3 : Blk wr w.heap.size 68 #[.int .i64 0, .int .i64 0] := HR1.out.kept HMZ.out.kept (fun e => e.elim (fun e => by have := HKL.out _ e; omega) (fun e => by omega))
      have r0 := hr3.cell 0
      have r1 := hr3.cell 1
      have q0 := hr3.frozen 0
      have q1 := hr3.frozen 1
      simp only [List.getElem?_toArray, List.getElem?_cons_zero, List.getElem?_cons_succ] at g0 g1 r0 r1
      have HR3 := Lib.hid hr3
      clear hr3
      go_wp2
      refine bodyPost_ret (results_cell_row rfl _ _ w.heap.size 68 #[.int .i64 a, .int .i64 m] (0, 0) _ rfl ?_ Try.underlying68 rfl runCells) rfl ?_
      · have := (HR3.out.set_ 0 (.int .i64 a)).set_ 1 (.int .i64 m)
        unfold Blk at this
        simpa using this
      · obtain ⟨w5, hw5⟩ : ∃ z, z = (wr.setCell ⟨w.heap.size, 0, none⟩ (.int .i64 a)).setCell ⟨w.heap.size, 1, none⟩ (.int .i64 m) := ⟨_, rfl⟩
        rw [← hw5]
        have hz5 : w5.heap.size = wr.heap.size := by rw [hw5, size_setCell', size_setCell']
        have hk5 : Kept (fun i => i = w.heap.size) wr w5 := by
          rw [hw5]
          exact ((Kept.refl (fun i => i = w.heap.size) wr).setCell (.inl rfl) _).setCell (.inl rfl) _
        obtain ⟨hrow, hkept⟩ := H.out.moved hQ HB1.out (by omega) HMZ.out (fun b h => h.imp id (fun e => by omega)) hk5
        have hlen := HMZ.out.len
        have hnn := HNN.out
        have hups : ∀ l ∈ Z.map SV.l, Up l := fun l hl => by
          obtain ⟨x, hx, rfl⟩ := List.mem_map.1 hl
          exact (HMZ.out.kids.each x hx).up
        have hmemZ : ∀ z, z ∈ orL (Z.map SV.l) ↔ ∃ y ∈ Z, z ∈ y.l := fun z => by
          rw [mem_orL hups]
          simp only [List.mem_map]
          exact ⟨fun ⟨l, ⟨a, ha, e⟩, hz⟩ => ⟨a, ha, by rw [e]; exact hz⟩, fun ⟨x, hx, hz⟩ => ⟨_, ⟨x, hx, rfl⟩, hz⟩⟩
        refine ⟨a, m, rfl, hkept, ?_⟩
        rcases HLE.out with ⟨h1, h2⟩ | ⟨h1, j, y, h2, h3, h4, h5⟩
        · refine .inl ⟨h1, fun z hz => ?_⟩
          rcases Int.lt_or_le z d with h6 | h6
          · exact h6
          · obtain ⟨y, hy, hzy⟩ := (HMZ.out.some_iff h6).2 ((HMEM.out z).1 hz)
            obtain ⟨i, hi⟩ := List.getElem?_of_mem hy
            rw [h2 i y (by have := (List.getElem?_eq_some_iff.1 hi).1; omega) hi] at hzy
            cases hzy
        · refine .inr ⟨⟨h4.pos, h4.low, h4.fit, h4.wide, fun z hz => ?_, fun z q1 q2 => ?_⟩, _, orL (Z.map SV.l), hS ⟨g, _, c, Z, HFV.out, hrow, rfl⟩, up_or hups, fun i hi => hi.imp id And.left, fun z hz => ?_⟩
          · obtain ⟨q1, q2⟩ := (HUM.out.mem_from d z).1 hz
            obtain ⟨y, hy, hzy⟩ := (HMZ.out.some_iff q2).2 ((HMEM.out z).1 q1)
            obtain ⟨i, hi⟩ := List.getElem?_of_mem hy
            exact h5 i y z (by have := (List.getElem?_eq_some_iff.1 hi).1; omega) hi hzy
          · exact (HUM.out.mem_from d z).2 ⟨(HMEM.out z).2 ((HMZ.out.some_iff (by omega)).1 ⟨y, List.mem_of_getElem? h3, h4.all z q1 q2⟩), by omega⟩
          · rw [hmemZ, HMEM.out]
            exact HMZ.out.some_iff (by have := h4.pos; omega)
end Go.Proofs.Ytkligdaademakaa
