/- The set that a script makes. -/
import Derived.Test.YtkligdaademakaaSeOps
import Derived.Deep.DeepCutAuto
namespace Go.Proofs.Ytkligdaademakaa
open Go.RowKit Go.Maps Go.WideMaps
set_option linter.unusedSimpArgs false

theorem set_size (w : World) : (sizeOf (Try.prog.elem 60)).run Try.prog w = .ok 1 w := by
  obtain ⟨i0, hi, hz0, hz1, hz2⟩ := info_parts setInfo
  rw [show Try.prog.elem 60 = 28 by kernel_rfl, run_sizeOf w hi]
  unfold Program.cellsOf
  rw [hi]
  simp [hz1]
set_option maxRecDepth 100000 in
theorem sets_from (w : World) (A : Option Addr) (n c p : Nat) (hp : p ≤ n) : (Instr.slice 60 (.slice A n c) (some (.int .i64 p)) none none).run Try.prog w = .ok (.slice (cutAddr A p c) (n - p) (c - p)) w := by
  rw [run_slice_l (P := Try.prog) (w := w) 60 A n c Try.underlying60 .i64 p (by omega) (by omega), set_size]
  simp [Result.andThen, sliced, cutAddr]
set_option maxRecDepth 100000 in
theorem sets_to (w : World) (A : Option Addr) (n c p : Nat) (h : p ≤ c) : (Instr.slice 60 (.slice A n c) none (some (.int .i64 p)) none).run Try.prog w = .ok (.slice A p c) w := by
  rw [run_slice_h (P := Try.prog) (w := w) 60 A n c Try.underlying60 .i64 p (by omega) (by omega), set_size]
  simp [Result.andThen, sliced, Addr.add]
theorem own_take {w : World} {base n c m : Nat} {e : TypeId} {A : Option Addr} {xs : List Value} (h : w.ownsRow base e 1 (.slice A n c) n xs) (hm : m ≤ n) : w.ownsRow base e 1 (.slice A m c) m (xs.take m) := by
  refine ⟨by rw [List.length_take, h.1]; omega, ?_⟩
  rcases h.2 with ⟨h1, h2⟩ | ⟨g, cap, cur, h1, h2, h3, h4, h5, h6, h7⟩
  · cases h1
    exact .inl ⟨by rw [show m = 0 by omega], by omega⟩
  · cases h1
    exact .inr ⟨g, c, cur, rfl, h2, h3, by omega, h5, h6, by rw [← h7, List.take_take, Nat.mul_one, Nat.mul_one, Nat.min_eq_left hm]⟩
/-- What a call leaves that took sets. -/
def RowOut2 (S : SetP) (W w : World) (G : Nat → Prop) (L X : List SV) (l : List Int) (e : Ending) (w' : World) : Prop :=
  ∃ y : SV, e = .returned (.pointer y.p) ∧ y.l = l ∧ Pool S W w' G (L ++ [y]) ∧ ∃ H, Kept H w w' ∧ (∀ b, H b → (∃ x ∈ X, x.F b) ∨ w.heap.size ≤ b) ∧ ∀ b, y.F b → (∃ x ∈ X, x.F b) ∨ w.heap.size ≤ b
theorem many_out2 {S : SetP} {W w wx w' : World} {G : Nat → Prop} {L X : List SV} {A : Option Addr} {n : Nat} {l : List Int} {e : Ending} (hb : Below w.heap.size w wx) (hrow : ∀ ad, A = some ad → 0 < n → w.heap.size ≤ ad.block) (h : ManyOut S W wx G L X A n l e w') : RowOut2 S W w G L X l e w' := by
  obtain ⟨y, rfl, h1, h2, h3, h4⟩ := h
  have hz := hb.size
  have e1 : ∀ b, ((∃ x ∈ X, x.F b) ∨ (∃ ad, A = some ad ∧ 0 < n ∧ b = ad.block)) → (∃ x ∈ X, x.F b) ∨ w.heap.size ≤ b := fun _ hb => hb.imp id (fun ⟨ad, e, h0, e2⟩ => by rw [e2]; exact hrow ad e h0)
  exact ⟨y, rfl, h1, h2, _, (Kept.below (F := fun b => (∃ x ∈ X, x.F b) ∨ w.heap.size ≤ b) hb).trans (h3.mono e1) (fun _ _ e => e), fun _ hb => hb, fun b hb => by
    rcases h4 b hb with h5 | h5
    · exact e1 b h5
    · exact .inr (by omega)⟩
theorem RowP.after {w w' : World} {base : Nat} {v : Value} {M X : List SV} {G H : Nat → Prop} {y : SV} (hr : RowP w base v M G (M ++ X)) (hk : Kept H w w') (hH : ∀ b, H b → (∃ x ∈ X, x.F b) ∨ w.heap.size ≤ b) (hy : ∀ b, y.F b → (∃ x ∈ X, x.F b) ∨ w.heap.size ≤ b) : RowP w' base v M G (M ++ [y]) := by
  have hno : ∀ g, v.ownBlock = some g → ¬ ((∃ x ∈ X, x.F g) ∨ w.heap.size ≤ g) := fun g e => by
    rintro (⟨x, hx, h1⟩ | h1)
    · exact (hr.far g e).2 x (List.mem_append_right _ hx) h1
    · have := (hr.own.lt g e).2; omega
  refine ⟨ownsRow_block hr.own fun g e => hk.block g (hr.own.lt g e).2 (fun h1 => hno g e (hH g h1)), fun g e => ⟨(hr.far g e).1, fun x hx hf => ?_⟩⟩
  rcases List.mem_append.1 hx with h1 | h1
  · exact (hr.far g e).2 x (List.mem_append_left _ h1) hf
  · rw [List.mem_singleton.1 h1] at hf
    exact hno g e (hy g hf)
theorem RowP.take {w : World} {base N c m : Nat} {A : Option Addr} {X : List SV} {G : Nat → Prop} (h : RowP w base (.slice A N c) X G X) (hN : X.length = N) (hm : m ≤ N) : RowP w base (.slice A m c) (X.take m) G (X.take m ++ X.drop m) := by
  have h1 := h.own
  rw [hN] at h1
  have h2 := own_take h1 hm
  refine ⟨by rw [List.length_take, Nat.min_eq_left (by omega), List.map_take]; exact h2, fun g e => ?_⟩
  rw [List.take_append_drop]
  refine h.far g ?_
  cases A with
  | none => cases e
  | some ad => exact e
section
variable {S : SetP} (hS : SetsOk S) {W w : World} {G : Nat → Prop} {L : List SV}
include hS
theorem Pool.and2 {X : List SV} (h : Pool S W w G (L ++ X)) (hn : X.length ≤ 1000) : Calls Try.prog 20 #[.slice (some ⟨w.heap.size, 0, none⟩) X.length X.length] (w.alloc (.cells (X.map fun x => Value.pointer x.p).toArray 28)) (RowOut2 S W w G L X (andL (X.map SV.l))) := by
  obtain ⟨h1, h2, h3⟩ := h.row hS
  exact (h1.and hS h2 (Nat.le_refl _) hn h3).mono fun e w' h => many_out2 ((Below.refl _ w).alloc (Nat.le_refl _) _) (fun ad e _ => by cases e; exact Nat.le_refl _) h
theorem Pool.or2 {X : List SV} (h : Pool S W w G (L ++ X)) (hn : X.length ≤ 1000) : Calls Try.prog 22 #[.slice (some ⟨w.heap.size, 0, none⟩) X.length X.length] (w.alloc (.cells (X.map fun x => Value.pointer x.p).toArray 28)) (RowOut2 S W w G L X (orL (X.map SV.l))) := by
  obtain ⟨h1, h2, h3⟩ := h.row hS
  exact (h1.or hS h2 (Nat.le_refl _) hn h3).mono fun e w' h => many_out2 ((Below.refl _ w).alloc (Nat.le_refl _) _) (fun ad e _ => by cases e; exact Nat.le_refl _) h
theorem Pool.less3 {x y : SV} (h : Pool S W w G (L ++ [x, y])) : Calls Try.prog 23 #[.pointer x.p, .pointer y.p] w (RowOut2 S W w G L [x, y] (lessI x.l y.l)) :=
  (h.less hS).mono fun e w' h => many_out2 (Below.refl _ _) (fun ad e => by cases e) h
theorem Pool.nilset (h : Pool S W w G L) : Pool S W w G (L ++ [⟨none, [], fun _ => False⟩]) := h.push hS (H := fun _ => False) (Kept.refl _ _) (fun _ e => e.elim) (hS.none w G) (fun _ e => e.elim)
end
theorem last_two {α : Type} {X : List α} {N m : Nat} (hN : X.length = N) (hm : N = m + 2) : ∃ a b, X.drop m = [a, b] ∧ X[m]? = some a ∧ X[m + 1]? = some b := by
  have h1 : (X.drop m).length = 2 := by rw [List.length_drop]; omega
  match hd : X.drop m, h1 with
  | [a, b], _ =>
    have e0 : (X.drop m)[0]? = some a := by rw [hd]; rfl
    have e1 : (X.drop m)[1]? = some b := by rw [hd]; rfl
    rw [List.getElem?_drop] at e0 e1
    exact ⟨a, b, rfl, e0, e1⟩
theorem map_getD {X : List SV} {st : List (List Int)} (h : X.map SV.l = st) {i : Nat} {a : SV} (ha : X[i]? = some a) : st.getD i [] = a.l := by
  rw [← h, List.getD_eq_getElem?_getD, List.getElem?_map, ha]
  rfl
theorem one_nil_src2 {y : SV} (h : y.p = none) (w : World) (o : Obj) : Src ((w.alloc o).alloc (.cells #[.pointer none] 28)) (some ⟨w.heap.size + 1, 0, none⟩) 1 [ptr y] := by
  have := one_ptr_src (w.alloc o) y
  rw [h, World.size_alloc] at this
  exact this
theorem one_nil_src {y : SV} (h : y.p = none) (w : World) (y' : SV) (e : y' = y) : Src (w.alloc (.cells #[.pointer none] 28)) (some ⟨w.heap.size, 0, none⟩) 1 [ptr y'] := by
  subst e
  have := one_ptr_src w y'
  rwa [h] at this
/-- The sets of a script. -/
def MadeOut (S : SetP) (w : World) (l : List Int) (e : Ending) (w' : World) : Prop := ∃ y : SV, e = .returned (.pointer y.p) ∧ y.l = l ∧ Pool S w w' (fun b => b < w.heap.size) [y]

set_option maxHeartbeats 32000000 in
set_option maxRecDepth 100000 in
theorem seMade_any {S : SetP} (hS : SetsOk S) (w : World) (A : Option Addr) (n c : Nat) (T : List SOp) (h : SOpsSee w A n T) (hT : SmallS T) : Calls Try.prog 12 #[.slice A n c] w (MadeOut S w (wantL T)) := by
  obtain ⟨i0, hi, hz0, hz1, hz2⟩ := info_parts setInfo
  have HT := Lib.hid h
  have HLEN := Lib.hid h.len
  have HSM := Lib.hid hT
  have hn6 : n ≤ 600 := by have := hT.few; rw [h.len] at this; exact this
  have HP0 := Lib.hid (Pool.start S w)
  clear h hT
  obtain ⟨G0, hG0⟩ : ∃ z : Nat → Prop, z = fun b => b < w.heap.size := ⟨_, rfl⟩
  have HG0 := Lib.hid hG0
  unfold MadeOut
  rw [← hG0] at HP0 ⊢
  clear hG0
  go_enter Try.func12, Try.ntmps12
  go_wp2
  go_loopw [3, 4] (fun v iv wr => ∃ (i : Nat) (X : List SV), i ≤ n ∧ iv = .int .i64 i ∧ X.map SV.l = runO T i ∧ Pool S w wr G0 X ∧ RowP wr w.heap.size v X G0 X) (fun _ iv _ => n - (intOf iv).toNat)
  case atStart => exact ⟨0, [], by omega, rfl, rfl, HP0.out, RowP.nil _ _ _ _⟩
  case round =>
    obtain ⟨i, X, hin, rfl, hX, hP, hR⟩ := hrel
    have HX := Lib.hid hX
    have HP := Lib.hid hP
    have HR := Lib.hid hR
    obtain ⟨N, hN⟩ : ∃ N, N = X.length := ⟨_, rfl⟩
    have hNi : N ≤ i := by rw [hN, ← List.length_map (f := SV.l), hX]; exact runO_len T i
    have hNr : (runO T i).length = N := by rw [← hX, List.length_map, hN]
    obtain ⟨Av, cv, hv⟩ := own_slice hR.own
    rw [← hN] at hv
    subst hv
    have hown := hR.own
    rw [← hN] at hown
    have hNc := (own_cap hown)
    have hNcv : N ≤ cv := by
      obtain ⟨_, _, e, h2⟩ := hNc
      cases e
      exact h2
    have HNR := Lib.hid hNr
    have HN := Lib.hid hN.symm
    have hbz := hP.below.size
    clear hX hP hR hN hNr hown hNc
    rcases Nat.lt_or_ge i n with hlt | hge
    · have hlt' : (i : Int) < (n : Int) := by omega
      have p0 : (0 : Int) ≤ (i : Int) := by omega
      have hw0 : IntKind.i64.wrap ((i : Int) + 1) = (i : Int) + 1 := IntWalk.i64_in _ (by omega)
      obtain ⟨pa, x, B, cb, rfl, hx, hf1, hf2, a0, a1, a2, hcb, hB⟩ := (HT.out.below HP.out.below).at i hlt
      have hBo : ∀ a, B = some a → 0 < x.l.length → a.block < w.heap.size := by
        obtain ⟨_, x', B', cb', e1, e2, _, _, _, e4, _, _, e5⟩ := HT.out.at i hlt
        obtain rfl := Option.some.inj e1
        obtain rfl := Option.some.inj (hx.symm.trans e2)
        have e6 := below_cells HP.out.below e4
        rw [a1] at e6
        cases e6
        exact e5.2.2.2
      have HXM := Lib.hid (HSM.out.len x (List.mem_of_getElem? hx))
      have HXA := Lib.hid (HSM.out.all x (List.mem_of_getElem? hx))
      have HST : Hid (runO T (i + 1) = stepO (runO T i) x) := Lib.hid (by rw [runO, List.getD_eq_getElem?_getD, hx]; rfl)
      obtain ⟨x1, xl, x3⟩ := x
      simp only at hf1 hf2 a0 a1 a2 hcb hB hBo HXM HXA
      obtain ⟨K, hK⟩ : ∃ K, K = xl.length := ⟨_, rfl⟩
      rw [← hK] at a1 hcb hB hBo HXM
      have HK := Lib.hid hK.symm
      obtain ⟨W1, hW1⟩ : ∃ W1, W1 = wr.alloc (.cells #[.int .i64 x1, .slice B K cb, .int .i64 x3] 65) := ⟨_, rfl⟩
      have hb1 : Below wr.heap.size wr W1 := by rw [hW1]; exact (Below.refl _ wr).alloc (Nat.le_refl _) _
      have HZ1 : Hid (W1.heap.size = wr.heap.size + 1) := Lib.hid (by rw [hW1]; simp)
      have HP1 := Lib.hid (HP.out.later hS hb1)
      have HR1 : Hid (RowP W1 w.heap.size (.slice Av N cv) X G0 X) := Lib.hid (HR.out.later (fun g e => hb1.block g (HR.out.own.lt g e).2) (fun _ e => .inl e) (fun x hx b hf => .inl ⟨x, hx, hf⟩))
      have HW1 := Lib.hid hW1
      have HB := Lib.hid (hB.below hb1)
      have HBO := Lib.hid hBo
      have hbz1 : w.heap.size ≤ W1.heap.size := HP1.out.below.size
      have h3a := hf2.1
      have h3b := hf2.2
      clear hx hB hBo hW1 hb1 hK
      have hob : Blk W1 wr.heap.size 65 #[.int .i64 x1, .slice B K cb, .int .i64 x3] := by rw [HW1.out]; exact Blk.new _ _ _
      have o0 : W1.cell? ⟨wr.heap.size, 0, none⟩ = some (.int .i64 x1) := hob.cell 0
      have o1 : W1.cell? ⟨wr.heap.size, 1, none⟩ = some (.slice B K cb) := hob.cell 1
      have o2 : W1.cell? ⟨wr.heap.size, 2, none⟩ = some (.int .i64 x3) := hob.cell 2
      obtain ⟨q, hq⟩ : ∃ q, q = kOf ⟨x1, xl, x3⟩ N := ⟨_, rfl⟩
      have hqN : q ≤ N := by
        rw [hq]
        unfold kOf
        by_cases h1 : 0 < x3 ∧ x3 ≤ (N : Int)
        · rw [if_pos h1]; simp only; omega
        · rw [if_neg h1]; omega
      have HKO := Lib.hid hq.symm
      have HQX : Hid ((0 < x3 ∧ x3 ≤ (N : Int) → x3 = (q : Int)) ∧ (¬ (0 < x3 ∧ x3 ≤ (N : Int)) → q = 0)) := Lib.hid (by
        rw [hq]
        unfold kOf
        constructor
        · intro h1
          rw [if_pos h1]
          simp only
          omega
        · intro h1
          rw [if_neg h1])
      clear hob hq
      obtain ⟨tb, htb⟩ : ∃ tb : Bool, tb = decide (0 < x3 ∧ x3 ≤ (N : Int)) := ⟨_, rfl⟩
      have HTB := Lib.hid htb
      clear htb
      go_upto_region 8 with fail
      rw [← HW1.out]
      go_cut [32] (fun v wx => v = .bool tb ∧ wx = W1)
      case first =>
        by_cases hk1 : 0 < x3
        · have dk1 : decide ((0 : Int) < x3) = true := decide_eq_true hk1
          by_cases hk2 : x3 ≤ (N : Int)
          · have dk2 : decide (x3 ≤ (N : Int)) = true := decide_eq_true hk2
            go_wp2_with fail
            go_meet
            case rel => exact ⟨by rw [HTB.out]; simp [hk1, hk2], rfl⟩
          · have dk2 : decide (x3 ≤ (N : Int)) = false := decide_eq_false hk2
            go_wp2_with fail
            go_meet
            case rel => exact ⟨by rw [HTB.out]; simp [hk1, hk2], rfl⟩
        · have dk1 : decide ((0 : Int) < x3) = false := decide_eq_false hk1
          go_wp2_with fail
          go_meet
          case rel => exact ⟨by rw [HTB.out, decide_eq_false (fun h => absurd h.1 (by omega))], rfl⟩
      case rest =>
      obtain ⟨rfl, hwx⟩ := hcut
      rw [hwx]
      clear hwx
      go_upto_if 32 with fail
      go_cut [7] (fun v wx => v = .int .i64 (q : Int) ∧ wx = W1)
      case first =>
        cases tb with
        | true =>
          have hk : 0 < x3 ∧ x3 ≤ (N : Int) := of_decide_eq_true HTB.out.symm
          have HQ := Lib.hid (HQX.out.1 hk)
          have hwk : IntKind.i64.wrap x3 = x3 := IntWalk.i64_in _ (by omega)
          go_wp2_with fail
          go_meet
          case rel => exact ⟨by rw [HQ.out], rfl⟩
        | false =>
          have hk := of_decide_eq_false HTB.out.symm
          have HQ := Lib.hid (HQX.out.2 hk)
          go_wp2_with fail
          go_meet
          case rel => exact ⟨by rw [HQ.out]; rfl, rfl⟩
      case rest =>
        obtain ⟨rfl, hwx⟩ := hcut
        rw [hwx]
        clear hwx
        by_cases c0 : x1 = 0
        · subst c0
          have hnb : Nums G0 W1 B xl.length xl := ⟨by rw [HK.out]; exact HB.out, fun a e h0 => by rw [HG0.out]; exact HBO.out a e (by rw [← HK.out]; exact h0)⟩
          have hlc := HP1.out.list hS (c := cb) hnb (by rw [HK.out]; exact hcb) (by rw [HK.out]; have := HXM.out; omega)
          rw [HK.out] at hlc
          have HL1 := Lib.hid hlc
          clear hnb hlc
          go_wp2_with fail
          refine HL1.out.mono ?_
          rintro e w2 ⟨y, rfl, hl2, hp2, hb2, hf2⟩
          have HPn := Lib.hid hp2
          have HRn : Hid (RowP w2 w.heap.size (.slice Av N cv) X G0 (X ++ [y])) := Lib.hid (HR1.out.later (fun g e => hb2.block g (HR1.out.own.lt g e).2) (fun _ e => .inl e) (fun z hz b hf => by
            rcases List.mem_append.1 hz with h1 | h1
            · exact .inl ⟨z, h1, hf⟩
            · rw [List.mem_singleton.1 h1] at hf; exact .inr (hf2 b hf)))
          have HML := HN
          have HFIN : Hid ((X ++ [y]).map SV.l = runO T (i + 1)) := Lib.hid (by rw [HST.out, List.map_append, HX.out]; simp [stepO, hl2])
          clear hl2 hp2 hb2 hf2 HL1
          have hra := HRn.out.own
          rw [HML.out] at hra
          have HRA := Lib.hid hra
          have hbz2 := HPn.out.below.size
          clear hra
          go_wp2_with (at_builtin; refine wpList_append_src _ rfl (.tmp 39) (.tmp 43) 60 rfl w.heap.size 28 i0 (.pointer none) 8 Try.underlying60 hi hz0 hz1 hz2 rfl _ N _ rfl (World.ownsRow.alloc HRA.out _) _ 1 1 _ rfl (one_ptr_src w2 y) (ptr_one [y]) (by unfold maxLen; omega) (by omega) (by simp; omega) ?_; intro v9 w9 hown hgrow hloc; obtain ⟨hr9, hp9, -, -⟩ := RowP.push hS HRn.out HPn.out (y := y) (by rw [HML.out]; exact hown) hgrow hloc; have HR9 := Lib.hid hr9; have HP9 := Lib.hid hp9; clear hown hgrow hloc hr9 hp9)
          go_roundw
          case rel => exact ⟨i + 1, X ++ [y], by omega, by go_num, HFIN.out, HP9.out, HR9.out⟩
          case measure => simp [intOf]; omega
        by_cases c1 : x1 = 1
        · subst c1
          have HL1 := Lib.hid (HP1.out.all hS x3 (HXA.out rfl) h3a)
          go_wp2_with fail
          refine HL1.out.mono ?_
          rintro e w2 ⟨y, rfl, hl2, hp2, hb2, hf2⟩
          have HPn := Lib.hid hp2
          have HRn : Hid (RowP w2 w.heap.size (.slice Av N cv) X G0 (X ++ [y])) := Lib.hid (HR1.out.later (fun g e => hb2.block g (HR1.out.own.lt g e).2) (fun _ e => .inl e) (fun z hz b hf => by
            rcases List.mem_append.1 hz with h1 | h1
            · exact .inl ⟨z, h1, hf⟩
            · rw [List.mem_singleton.1 h1] at hf; exact .inr (hf2 b hf)))
          have HML := HN
          have HFIN : Hid ((X ++ [y]).map SV.l = runO T (i + 1)) := Lib.hid (by rw [HST.out, List.map_append, HX.out]; simp [stepO, hl2])
          clear hl2 hp2 hb2 hf2 HL1
          have hra := HRn.out.own
          rw [HML.out] at hra
          have HRA := Lib.hid hra
          have hbz2 := HPn.out.below.size
          clear hra
          go_wp2_with (at_builtin; refine wpList_append_src _ rfl (.tmp 47) (.tmp 51) 60 rfl w.heap.size 28 i0 (.pointer none) 8 Try.underlying60 hi hz0 hz1 hz2 rfl _ N _ rfl (World.ownsRow.alloc HRA.out _) _ 1 1 _ rfl (one_ptr_src w2 y) (ptr_one [y]) (by unfold maxLen; omega) (by omega) (by simp; omega) ?_; intro v9 w9 hown hgrow hloc; obtain ⟨hr9, hp9, -, -⟩ := RowP.push hS HRn.out HPn.out (y := y) (by rw [HML.out]; exact hown) hgrow hloc; have HR9 := Lib.hid hr9; have HP9 := Lib.hid hp9; clear hown hgrow hloc hr9 hp9)
          go_roundw
          case rel => exact ⟨i + 1, X ++ [y], by omega, by go_num, HFIN.out, HP9.out, HR9.out⟩
          case measure => simp [intOf]; omega
        by_cases c2 : x1 = 2
        · subst c2
          by_cases hN2 : N < 2
          · have d2 : decide ((N : Int) < 2) = true := decide_eq_true (by omega)
            have HFIN : Hid (X.map SV.l = runO T (i + 1)) := Lib.hid (by rw [HST.out, HX.out, stepO]; simp only; rw [HNR.out]; simp; intro h; omega)
            go_wp2
            go_roundw
            case rel => exact ⟨i + 1, X, by omega, by go_num, HFIN.out, HP1.out, HR1.out⟩
            case measure => simp [intOf]; omega
          have d2 : decide ((N : Int) < 2) = false := decide_eq_false (by omega)
          obtain ⟨m, hm⟩ : ∃ m, N = m + 2 := ⟨N - 2, by omega⟩
          obtain ⟨m1, hm1⟩ : ∃ m1, m1 = m + 1 := ⟨_, rfl⟩
          have hwa : IntKind.i64.wrap ((N : Int) - 2) = (m : Int) := by rw [show (N : Int) - 2 = (m : Int) by omega]; exact IntWalk.i64_in _ (by omega)
          have hwb : IntKind.i64.wrap ((N : Int) - 1) = (m1 : Int) := by rw [show (N : Int) - 1 = (m1 : Int) by omega]; exact IntWalk.i64_in _ (by omega)
          have pm0 : (0 : Int) ≤ (m : Int) := by omega
          have pm1 : (m : Int) < (N : Int) := by omega
          have pn0 : (0 : Int) ≤ (m1 : Int) := by omega
          have pn1 : (m1 : Int) < (N : Int) := by omega
          have hsl := fun w => sets_to w Av N cv m (by omega)
          obtain ⟨xa, xb, hdr, hxa, hxb⟩ := last_two HN.out hm
          have htd := List.take_append_drop m X
          rw [hdr] at htd
          have hpp := HP1.out
          rw [← htd] at hpp
          have hlc := hpp.and2 hS (by simp)
          simp only [List.map_cons, List.map_nil, List.length_cons, List.length_nil, Nat.zero_add, Nat.reduceAdd] at hlc
          have HLC := Lib.hid hlc
          have hro := HR1.out.own
          rw [HN.out] at hro
          have hsr := src_of_own hro
          cases Av with
          | none => have := hsr.nil rfl; omega
          | some ad =>
          have ea : W1.cell? (ad.add m) = some (.pointer xa.p) := hsr.cells ad rfl m (ptr xa) (by rw [List.getElem?_map, hxa]; rfl)
          have eb : W1.cell? (ad.add m1) = some (.pointer xb.p) := hsr.cells ad rfl m1 (ptr xb) (by rw [hm1, List.getElem?_map, hxb]; rfl)
          have HRT := Lib.hid (HR1.out.take HN.out (show m ≤ N by omega))
          rw [hdr] at HRT
          have HML : Hid ((X.take m).length = m) := Lib.hid (by rw [List.length_take, HN.out]; omega)
          have HVA : Hid ((runO T i).getD (N - 2) [] = xa.l) := Lib.hid (by rw [show N - 2 = m by omega]; exact map_getD HX.out hxa)
          have HVB : Hid ((runO T i).getD (N - 1) [] = xb.l) := Lib.hid (by rw [show N - 1 = m + 1 by omega]; exact map_getD HX.out hxb)
          have HTK : Hid ((X.take m).map SV.l = (runO T i).take (N - 2)) := Lib.hid (by rw [← HX.out, List.map_take, show N - 2 = m by omega])
          obtain ⟨M, hM⟩ : ∃ M, M = X.take m := ⟨_, rfl⟩
          rw [← hM] at HLC HRT HML HTK
          have hmle : m ≤ 600 := by omega
          have hmc : m ≤ cv := by omega
          clear hdr hxa hxb htd hpp hlc hro hsr hM hm hm1
          go_wp2_with fail
          refine HLC.out.mono ?_
          rintro e w2 ⟨y, rfl, hl2, hp2, H, hk2, hH2, hf2⟩
          have HPn := Lib.hid hp2
          have HRn := Lib.hid (RowP.after HRT.out hk2 hH2 hf2)
          have HFIN : Hid ((M ++ [y]).map SV.l = runO T (i + 1)) := Lib.hid (by
            rw [HST.out, List.map_append, HTK.out, stepO]
            simp only
            rw [HNR.out, HVA.out, HVB.out]
            simp [hl2, hN2, andL, orL, orI])
          clear hl2 hp2 hk2 hH2 hf2 HLC ea eb
          have hra := HRn.out.own
          rw [HML.out] at hra
          have HRA := Lib.hid hra
          have hbz2 := HPn.out.below.size
          clear hra
          go_wp2_with (at_builtin; refine wpList_append_src _ rfl (.tmp 76) (.tmp 81) 60 rfl w.heap.size 28 i0 (.pointer none) 8 Try.underlying60 hi hz0 hz1 hz2 rfl _ m _ rfl (World.ownsRow.alloc HRA.out _) _ 1 1 _ rfl (one_ptr_src w2 y) (ptr_one [y]) (by unfold maxLen; omega) (by omega) (by simp; omega) ?_; intro v9 w9 hown hgrow hloc; obtain ⟨hr9, hp9, -, -⟩ := RowP.push hS HRn.out HPn.out (y := y) (by rw [HML.out]; exact hown) hgrow hloc; have HR9 := Lib.hid hr9; have HP9 := Lib.hid hp9; clear hown hgrow hloc hr9 hp9)
          go_roundw
          case rel => exact ⟨i + 1, M ++ [y], by omega, by go_num, HFIN.out, HP9.out, HR9.out⟩
          case measure => simp [intOf]; omega
        by_cases c3 : x1 = 3
        · subst c3
          by_cases hN2 : N < 2
          · have d2 : decide ((N : Int) < 2) = true := decide_eq_true (by omega)
            have HFIN : Hid (X.map SV.l = runO T (i + 1)) := Lib.hid (by rw [HST.out, HX.out, stepO]; simp only; rw [HNR.out]; simp; intro h; omega)
            go_wp2
            go_roundw
            case rel => exact ⟨i + 1, X, by omega, by go_num, HFIN.out, HP1.out, HR1.out⟩
            case measure => simp [intOf]; omega
          have d2 : decide ((N : Int) < 2) = false := decide_eq_false (by omega)
          obtain ⟨m, hm⟩ : ∃ m, N = m + 2 := ⟨N - 2, by omega⟩
          obtain ⟨m1, hm1⟩ : ∃ m1, m1 = m + 1 := ⟨_, rfl⟩
          have hwa : IntKind.i64.wrap ((N : Int) - 2) = (m : Int) := by rw [show (N : Int) - 2 = (m : Int) by omega]; exact IntWalk.i64_in _ (by omega)
          have hwb : IntKind.i64.wrap ((N : Int) - 1) = (m1 : Int) := by rw [show (N : Int) - 1 = (m1 : Int) by omega]; exact IntWalk.i64_in _ (by omega)
          have pm0 : (0 : Int) ≤ (m : Int) := by omega
          have pm1 : (m : Int) < (N : Int) := by omega
          have pn0 : (0 : Int) ≤ (m1 : Int) := by omega
          have pn1 : (m1 : Int) < (N : Int) := by omega
          have hsl := fun w => sets_to w Av N cv m (by omega)
          obtain ⟨xa, xb, hdr, hxa, hxb⟩ := last_two HN.out hm
          have htd := List.take_append_drop m X
          rw [hdr] at htd
          have hpp := HP1.out
          rw [← htd] at hpp
          have hlc := hpp.or2 hS (by simp)
          simp only [List.map_cons, List.map_nil, List.length_cons, List.length_nil, Nat.zero_add, Nat.reduceAdd] at hlc
          have HLC := Lib.hid hlc
          have hro := HR1.out.own
          rw [HN.out] at hro
          have hsr := src_of_own hro
          cases Av with
          | none => have := hsr.nil rfl; omega
          | some ad =>
          have ea : W1.cell? (ad.add m) = some (.pointer xa.p) := hsr.cells ad rfl m (ptr xa) (by rw [List.getElem?_map, hxa]; rfl)
          have eb : W1.cell? (ad.add m1) = some (.pointer xb.p) := hsr.cells ad rfl m1 (ptr xb) (by rw [hm1, List.getElem?_map, hxb]; rfl)
          have HRT := Lib.hid (HR1.out.take HN.out (show m ≤ N by omega))
          rw [hdr] at HRT
          have HML : Hid ((X.take m).length = m) := Lib.hid (by rw [List.length_take, HN.out]; omega)
          have HVA : Hid ((runO T i).getD (N - 2) [] = xa.l) := Lib.hid (by rw [show N - 2 = m by omega]; exact map_getD HX.out hxa)
          have HVB : Hid ((runO T i).getD (N - 1) [] = xb.l) := Lib.hid (by rw [show N - 1 = m + 1 by omega]; exact map_getD HX.out hxb)
          have HTK : Hid ((X.take m).map SV.l = (runO T i).take (N - 2)) := Lib.hid (by rw [← HX.out, List.map_take, show N - 2 = m by omega])
          obtain ⟨M, hM⟩ : ∃ M, M = X.take m := ⟨_, rfl⟩
          rw [← hM] at HLC HRT HML HTK
          have hmle : m ≤ 600 := by omega
          have hmc : m ≤ cv := by omega
          clear hdr hxa hxb htd hpp hlc hro hsr hM hm hm1
          go_wp2_with fail
          refine HLC.out.mono ?_
          rintro e w2 ⟨y, rfl, hl2, hp2, H, hk2, hH2, hf2⟩
          have HPn := Lib.hid hp2
          have HRn := Lib.hid (RowP.after HRT.out hk2 hH2 hf2)
          have HFIN : Hid ((M ++ [y]).map SV.l = runO T (i + 1)) := Lib.hid (by
            rw [HST.out, List.map_append, HTK.out, stepO]
            simp only
            rw [HNR.out, HVA.out, HVB.out]
            simp [hl2, hN2, andL, orL, orI])
          clear hl2 hp2 hk2 hH2 hf2 HLC ea eb
          have hra := HRn.out.own
          rw [HML.out] at hra
          have HRA := Lib.hid hra
          have hbz2 := HPn.out.below.size
          clear hra
          go_wp2_with (at_builtin; refine wpList_append_src _ rfl (.tmp 86) (.tmp 91) 60 rfl w.heap.size 28 i0 (.pointer none) 8 Try.underlying60 hi hz0 hz1 hz2 rfl _ m _ rfl (World.ownsRow.alloc HRA.out _) _ 1 1 _ rfl (one_ptr_src w2 y) (ptr_one [y]) (by unfold maxLen; omega) (by omega) (by simp; omega) ?_; intro v9 w9 hown hgrow hloc; obtain ⟨hr9, hp9, -, -⟩ := RowP.push hS HRn.out HPn.out (y := y) (by rw [HML.out]; exact hown) hgrow hloc; have HR9 := Lib.hid hr9; have HP9 := Lib.hid hp9; clear hown hgrow hloc hr9 hp9)
          go_roundw
          case rel => exact ⟨i + 1, M ++ [y], by omega, by go_num, HFIN.out, HP9.out, HR9.out⟩
          case measure => simp [intOf]; omega
        by_cases c4 : x1 = 4
        · subst c4
          by_cases hN2 : N < 2
          · have d2 : decide ((N : Int) < 2) = true := decide_eq_true (by omega)
            have HFIN : Hid (X.map SV.l = runO T (i + 1)) := Lib.hid (by rw [HST.out, HX.out, stepO]; simp only; rw [HNR.out]; simp; intro h; omega)
            go_wp2
            go_roundw
            case rel => exact ⟨i + 1, X, by omega, by go_num, HFIN.out, HP1.out, HR1.out⟩
            case measure => simp [intOf]; omega
          have d2 : decide ((N : Int) < 2) = false := decide_eq_false (by omega)
          obtain ⟨m, hm⟩ : ∃ m, N = m + 2 := ⟨N - 2, by omega⟩
          obtain ⟨m1, hm1⟩ : ∃ m1, m1 = m + 1 := ⟨_, rfl⟩
          have hwa : IntKind.i64.wrap ((N : Int) - 2) = (m : Int) := by rw [show (N : Int) - 2 = (m : Int) by omega]; exact IntWalk.i64_in _ (by omega)
          have hwb : IntKind.i64.wrap ((N : Int) - 1) = (m1 : Int) := by rw [show (N : Int) - 1 = (m1 : Int) by omega]; exact IntWalk.i64_in _ (by omega)
          have pm0 : (0 : Int) ≤ (m : Int) := by omega
          have pm1 : (m : Int) < (N : Int) := by omega
          have pn0 : (0 : Int) ≤ (m1 : Int) := by omega
          have pn1 : (m1 : Int) < (N : Int) := by omega
          have hsl := fun w => sets_to w Av N cv m (by omega)
          obtain ⟨xa, xb, hdr, hxa, hxb⟩ := last_two HN.out hm
          have htd := List.take_append_drop m X
          rw [hdr] at htd
          have hpp := HP1.out
          rw [← htd] at hpp
          have hlc := hpp.less3 hS
          skip
          have HLC := Lib.hid hlc
          have hro := HR1.out.own
          rw [HN.out] at hro
          have hsr := src_of_own hro
          cases Av with
          | none => have := hsr.nil rfl; omega
          | some ad =>
          have ea : W1.cell? (ad.add m) = some (.pointer xa.p) := hsr.cells ad rfl m (ptr xa) (by rw [List.getElem?_map, hxa]; rfl)
          have eb : W1.cell? (ad.add m1) = some (.pointer xb.p) := hsr.cells ad rfl m1 (ptr xb) (by rw [hm1, List.getElem?_map, hxb]; rfl)
          have HRT := Lib.hid (HR1.out.take HN.out (show m ≤ N by omega))
          rw [hdr] at HRT
          have HML : Hid ((X.take m).length = m) := Lib.hid (by rw [List.length_take, HN.out]; omega)
          have HVA : Hid ((runO T i).getD (N - 2) [] = xa.l) := Lib.hid (by rw [show N - 2 = m by omega]; exact map_getD HX.out hxa)
          have HVB : Hid ((runO T i).getD (N - 1) [] = xb.l) := Lib.hid (by rw [show N - 1 = m + 1 by omega]; exact map_getD HX.out hxb)
          have HTK : Hid ((X.take m).map SV.l = (runO T i).take (N - 2)) := Lib.hid (by rw [← HX.out, List.map_take, show N - 2 = m by omega])
          obtain ⟨M, hM⟩ : ∃ M, M = X.take m := ⟨_, rfl⟩
          rw [← hM] at HLC HRT HML HTK
          have hmle : m ≤ 600 := by omega
          have hmc : m ≤ cv := by omega
          clear hdr hxa hxb htd hpp hlc hro hsr hM hm hm1
          go_wp2_with fail
          refine HLC.out.mono ?_
          rintro e w2 ⟨y, rfl, hl2, hp2, H, hk2, hH2, hf2⟩
          have HPn := Lib.hid hp2
          have HRn := Lib.hid (RowP.after HRT.out hk2 hH2 hf2)
          have HFIN : Hid ((M ++ [y]).map SV.l = runO T (i + 1)) := Lib.hid (by
            rw [HST.out, List.map_append, HTK.out, stepO]
            simp only
            rw [HNR.out, HVA.out, HVB.out]
            simp [hl2, hN2, andL, orL, orI])
          clear hl2 hp2 hk2 hH2 hf2 HLC ea eb
          have hra := HRn.out.own
          rw [HML.out] at hra
          have HRA := Lib.hid hra
          have hbz2 := HPn.out.below.size
          clear hra
          go_wp2_with (at_builtin; refine wpList_append_src _ rfl (.tmp 93) (.tmp 97) 60 rfl w.heap.size 28 i0 (.pointer none) 8 Try.underlying60 hi hz0 hz1 hz2 rfl _ m _ rfl (World.ownsRow.alloc HRA.out _) _ 1 1 _ rfl (one_ptr_src w2 y) (ptr_one [y]) (by unfold maxLen; omega) (by omega) (by simp; omega) ?_; intro v9 w9 hown hgrow hloc; obtain ⟨hr9, hp9, -, -⟩ := RowP.push hS HRn.out HPn.out (y := y) (by rw [HML.out]; exact hown) hgrow hloc; have HR9 := Lib.hid hr9; have HP9 := Lib.hid hp9; clear hown hgrow hloc hr9 hp9)
          go_roundw
          case rel => exact ⟨i + 1, M ++ [y], by omega, by go_num, HFIN.out, HP9.out, HR9.out⟩
          case measure => simp [intOf]; omega
        by_cases c7 : x1 = 7
        · subst c7
          obtain ⟨y, hy⟩ : ∃ y : SV, y = ⟨none, [], fun _ => False⟩ := ⟨_, rfl⟩
          have hyp : y.p = none := by rw [hy]
          have HPn : Hid (Pool S w W1 G0 (X ++ [y])) := Lib.hid (by rw [hy]; exact HP1.out.nilset hS)
          have HRn : Hid (RowP W1 w.heap.size (.slice Av N cv) X G0 (X ++ [y])) := Lib.hid (HR1.out.later (fun _ _ => rfl) (fun _ e => .inl e) (fun z hz b hf => by
            rcases List.mem_append.1 hz with h1 | h1
            · exact .inl ⟨z, h1, hf⟩
            · rw [List.mem_singleton.1 h1, hy] at hf; exact hf.elim))
          have HML := HN
          have HFIN : Hid ((X ++ [y]).map SV.l = runO T (i + 1)) := Lib.hid (by rw [HST.out, List.map_append, HX.out]; simp [stepO, hy])
          have HYP := Lib.hid hyp
          clear hy hyp
          have hra := HRn.out.own
          rw [HML.out] at hra
          have HRA := Lib.hid hra
          have hbz2 := HPn.out.below.size
          clear hra
          go_wp2_with (at_builtin; refine wpList_append_src _ rfl (.tmp 139) (.tmp 140) 60 rfl w.heap.size 28 i0 (.pointer none) 8 Try.underlying60 hi hz0 hz1 hz2 rfl _ N _ rfl (World.ownsRow.alloc HRA.out _) _ 1 1 _ rfl (one_nil_src HYP.out W1 y rfl) (ptr_one [y]) (by unfold maxLen; omega) (by omega) (by simp; omega) ?_; intro v9 w9 hown hgrow hloc; obtain ⟨hr9, hp9, -, -⟩ := RowP.push hS HRn.out HPn.out (y := y) (by rw [HML.out]; exact hown) hgrow hloc; have HR9 := Lib.hid hr9; have HP9 := Lib.hid hp9; clear hown hgrow hloc hr9 hp9)
          go_roundw
          case rel => exact ⟨i + 1, X ++ [y], by omega, by go_num, HFIN.out, HP9.out, HR9.out⟩
          case measure => simp [intOf]; omega
        by_cases c5 : x1 = 5
        · subst c5
          obtain ⟨m, hm⟩ : ∃ m, m = N - q := ⟨_, rfl⟩
          have hmN : m ≤ N := by omega
          have hmc : m ≤ cv := by omega
          have hmle : m ≤ 600 := by omega
          have hqm : N - m = q := by omega
          have hwm : IntKind.i64.wrap ((N : Int) - (q : Int)) = (m : Int) := by rw [show (N : Int) - (q : Int) = (m : Int) by omega]; exact IntWalk.i64_in _ (by omega)
          have hsl := fun w => sets_from w Av N cv m hmN
          have hst := fun w => sets_to w Av N cv m hmc
          rw [hqm] at hsl
          have HTK : Hid ((X.take m).map SV.l = (runO T i).take (N - q)) := Lib.hid (by rw [← HX.out, List.map_take, ← hm])
          have HDK : Hid ((X.drop m).map SV.l = (runO T i).drop (N - q)) := Lib.hid (by rw [← HX.out, List.map_drop, ← hm])
          have HML : Hid ((X.take m).length = m) := Lib.hid (by rw [List.length_take, HN.out]; omega)
          have hro := HR1.out.own
          rw [HN.out] at hro
          obtain ⟨W2, hW2⟩ : ∃ W2, W2 = W1.alloc (.cells #[] 28) := ⟨_, rfl⟩
          have hb2 : Below W1.heap.size W1 W2 := by rw [hW2]; exact (Below.refl _ W1).alloc (Nat.le_refl _) _
          have hro2 := ownsRow_block hro (w' := W2) fun g e => hb2.block g (hro.lt g e).2
          have hsr := src_of_own hro2
          have HSRC : Hid (Src W2 (cutAddr Av m cv) q ((X.drop m).map ptr)) := Lib.hid (by
            refine ⟨by rw [List.length_map, List.length_drop, HN.out]; exact hqm, fun ad e j u hu => ?_, fun e => ?_⟩
            · have hlt := (List.getElem?_eq_some_iff.1 hu).1
              rw [List.length_map, List.length_drop, HN.out] at hlt
              unfold cutAddr at e
              rw [if_neg (by omega)] at e
              cases Av with
              | none => cases e
              | some a =>
                simp at e
                subst e
                have h5 := hsr.cells a rfl (m + j) u (by rw [← hu, List.map_drop, List.getElem?_drop])
                rwa [Go.Deep.add_add]
            · unfold cutAddr at e
              split at e
              · have := hsr.nil e; omega
              · cases Av with
                | none => have := hsr.nil rfl; omega
                | some a => cases e)
          have HE : Hid (W2.ownsRow W1.heap.size 28 1 (.slice (some ⟨W1.heap.size, 0, none⟩) 0 0) 0 []) := Lib.hid (by
            refine ⟨rfl, .inr ⟨W1.heap.size, 0, #[], rfl, Nat.le_refl _, ?_, Nat.le_refl _, by unfold maxLen; omega, rfl, rfl⟩⟩
            rw [hW2]
            exact heap_alloc_new W1 _)
          have hzw : W1.heap.size ≤ W2.heap.size := by rw [hW2]; simp
          have hz01 : wr.heap.size ≤ W1.heap.size := by have := HZ1.out; omega
          have HB2 : Hid (Below wr.heap.size wr W2) := Lib.hid (by
            have h5 : Below wr.heap.size wr W1 := by rw [HW1.out]; exact (Below.refl _ wr).alloc (Nat.le_refl _) _
            exact below_then h5 hb2 h5.size)
          have HW2 := Lib.hid hW2
          have HMQ := Lib.hid hm
          clear hm hqm hro hro2 hsr hW2 hb2
          go_wp2_with (at_builtin; rw [← HW2.out]; refine wpList_append_src _ rfl (.tmp 101) (.tmp 106) 60 rfl W1.heap.size 28 i0 (.pointer none) 8 Try.underlying60 hi hz0 hz1 hz2 rfl _ 0 [] rfl HE.out (cutAddr Av m cv) q (cv - m) ((X.drop m).map ptr) rfl HSRC.out (ptr_one _) (by unfold maxLen; omega) (by omega) hzw ?_; intro v3 w3 hown hgrow hloc; rw [Nat.zero_add, List.nil_append] at hown; obtain ⟨Ax, cx, hv3, hcx⟩ := own_cap hown; subst hv3; have HX3 := Lib.hid hown; have HB3 := Lib.hid (HB2.out.grown hgrow (Nat.le_trans hz01 hzw) (fun g e => by cases e; exact hz01)); clear hown hgrow hloc)
          have hbz3 := HB3.out.size
          have hall : Pool S w w3 G0 (X.take m ++ X.drop m) := by rw [List.take_append_drop]; exact HP.out.later hS HB3.out
          have hr : ∀ ad, Ax = some ad → 0 < q → ad.block < w3.heap.size ∧ ¬ G0 ad.block ∧ ∀ x ∈ X.take m ++ X.drop m, ¬ x.F ad.block := fun ad e _ => by
            have h5 := HX3.out.lt ad.block (by rw [e]; rfl)
            refine ⟨h5.2, fun hg => by have := HP.out.lt _ hg; omega, fun z hz hf => ?_⟩
            rw [List.take_append_drop] at hz
            have := hS.lt (HP.out.each z hz) _ hf; omega
          have hlc := (hall.and hS (c := cx) (src_of_own HX3.out) hcx (by omega) hr).mono fun e w' h => many_out2 HB3.out (fun ad e _ => by have := (HX3.out.lt ad.block (by rw [e]; rfl)).1; omega) h
          have HLC := Lib.hid hlc
          have HRT := Lib.hid (HR.out.take HN.out hmN)
          obtain ⟨M, hM⟩ : ∃ M, M = X.take m := ⟨_, rfl⟩
          rw [← hM] at HLC HRT HML HTK
          clear hall hr hlc hM
          go_wp2_with fail
          refine HLC.out.mono ?_
          rintro e w2 ⟨y, rfl, hl2, hp2, H, hk2, hH2, hf2⟩
          have HPn := Lib.hid hp2
          have HRn := Lib.hid (RowP.after HRT.out hk2 hH2 hf2)
          have HFIN : Hid ((M ++ [y]).map SV.l = runO T (i + 1)) := Lib.hid (by
            rw [HST.out, List.map_append, HTK.out, stepO]
            simp only
            rw [HNR.out, HKO.out]
            simp [hl2, HDK.out])
          clear hl2 hp2 hk2 hH2 hf2 HLC
          have hra := HRn.out.own
          rw [HML.out] at hra
          have HRA := Lib.hid hra
          have hbz2 := HPn.out.below.size
          clear hra
          go_wp2_with (at_builtin; refine wpList_append_src _ rfl (.tmp 113) (.tmp 116) 60 rfl w.heap.size 28 i0 (.pointer none) 8 Try.underlying60 hi hz0 hz1 hz2 rfl _ m _ rfl (World.ownsRow.alloc HRA.out _) _ 1 1 _ rfl (one_ptr_src w2 y) (ptr_one [y]) (by unfold maxLen; omega) (by omega) (by simp; omega) ?_; intro v9 w9 hown hgrow hloc; obtain ⟨hr9, hp9, -, -⟩ := RowP.push hS HRn.out HPn.out (y := y) (by rw [HML.out]; exact hown) hgrow hloc; have HR9 := Lib.hid hr9; have HP9 := Lib.hid hp9; clear hown hgrow hloc hr9 hp9)
          go_roundw
          case rel => exact ⟨i + 1, M ++ [y], by omega, by go_num, HFIN.out, HP9.out, HR9.out⟩
          case measure => simp [intOf]; omega
        by_cases c6 : x1 = 6
        · subst c6
          obtain ⟨m, hm⟩ : ∃ m, m = N - q := ⟨_, rfl⟩
          have hmN : m ≤ N := by omega
          have hmc : m ≤ cv := by omega
          have hmle : m ≤ 600 := by omega
          have hqm : N - m = q := by omega
          have hwm : IntKind.i64.wrap ((N : Int) - (q : Int)) = (m : Int) := by rw [show (N : Int) - (q : Int) = (m : Int) by omega]; exact IntWalk.i64_in _ (by omega)
          have hsl := fun w => sets_from w Av N cv m hmN
          have hst := fun w => sets_to w Av N cv m hmc
          rw [hqm] at hsl
          have HTK : Hid ((X.take m).map SV.l = (runO T i).take (N - q)) := Lib.hid (by rw [← HX.out, List.map_take, ← hm])
          have HDK : Hid ((X.drop m).map SV.l = (runO T i).drop (N - q)) := Lib.hid (by rw [← HX.out, List.map_drop, ← hm])
          have HML : Hid ((X.take m).length = m) := Lib.hid (by rw [List.length_take, HN.out]; omega)
          have hro := HR1.out.own
          rw [HN.out] at hro
          obtain ⟨W2, hW2⟩ : ∃ W2, W2 = W1.alloc (.cells #[] 28) := ⟨_, rfl⟩
          have hb2 : Below W1.heap.size W1 W2 := by rw [hW2]; exact (Below.refl _ W1).alloc (Nat.le_refl _) _
          have hro2 := ownsRow_block hro (w' := W2) fun g e => hb2.block g (hro.lt g e).2
          have hsr := src_of_own hro2
          have HSRC : Hid (Src W2 (cutAddr Av m cv) q ((X.drop m).map ptr)) := Lib.hid (by
            refine ⟨by rw [List.length_map, List.length_drop, HN.out]; exact hqm, fun ad e j u hu => ?_, fun e => ?_⟩
            · have hlt := (List.getElem?_eq_some_iff.1 hu).1
              rw [List.length_map, List.length_drop, HN.out] at hlt
              unfold cutAddr at e
              rw [if_neg (by omega)] at e
              cases Av with
              | none => cases e
              | some a =>
                simp at e
                subst e
                have h5 := hsr.cells a rfl (m + j) u (by rw [← hu, List.map_drop, List.getElem?_drop])
                rwa [Go.Deep.add_add]
            · unfold cutAddr at e
              split at e
              · have := hsr.nil e; omega
              · cases Av with
                | none => have := hsr.nil rfl; omega
                | some a => cases e)
          have HE : Hid (W2.ownsRow W1.heap.size 28 1 (.slice (some ⟨W1.heap.size, 0, none⟩) 0 0) 0 []) := Lib.hid (by
            refine ⟨rfl, .inr ⟨W1.heap.size, 0, #[], rfl, Nat.le_refl _, ?_, Nat.le_refl _, by unfold maxLen; omega, rfl, rfl⟩⟩
            rw [hW2]
            exact heap_alloc_new W1 _)
          have hzw : W1.heap.size ≤ W2.heap.size := by rw [hW2]; simp
          have hz01 : wr.heap.size ≤ W1.heap.size := by have := HZ1.out; omega
          have HB2 : Hid (Below wr.heap.size wr W2) := Lib.hid (by
            have h5 : Below wr.heap.size wr W1 := by rw [HW1.out]; exact (Below.refl _ wr).alloc (Nat.le_refl _) _
            exact below_then h5 hb2 h5.size)
          have HW2 := Lib.hid hW2
          have HMQ := Lib.hid hm
          clear hm hqm hro hro2 hsr hW2 hb2
          go_wp2_with (at_builtin; rw [← HW2.out]; refine wpList_append_src _ rfl (.tmp 120) (.tmp 125) 60 rfl W1.heap.size 28 i0 (.pointer none) 8 Try.underlying60 hi hz0 hz1 hz2 rfl _ 0 [] rfl HE.out (cutAddr Av m cv) q (cv - m) ((X.drop m).map ptr) rfl HSRC.out (ptr_one _) (by unfold maxLen; omega) (by omega) hzw ?_; intro v3 w3 hown hgrow hloc; rw [Nat.zero_add, List.nil_append] at hown; obtain ⟨Ax, cx, hv3, hcx⟩ := own_cap hown; subst hv3; have HX3 := Lib.hid hown; have HB3 := Lib.hid (HB2.out.grown hgrow (Nat.le_trans hz01 hzw) (fun g e => by cases e; exact hz01)); clear hown hgrow hloc)
          have hbz3 := HB3.out.size
          have hall : Pool S w w3 G0 (X.take m ++ X.drop m) := by rw [List.take_append_drop]; exact HP.out.later hS HB3.out
          have hr : ∀ ad, Ax = some ad → 0 < q → ad.block < w3.heap.size ∧ ¬ G0 ad.block ∧ ∀ x ∈ X.take m ++ X.drop m, ¬ x.F ad.block := fun ad e _ => by
            have h5 := HX3.out.lt ad.block (by rw [e]; rfl)
            refine ⟨h5.2, fun hg => by have := HP.out.lt _ hg; omega, fun z hz hf => ?_⟩
            rw [List.take_append_drop] at hz
            have := hS.lt (HP.out.each z hz) _ hf; omega
          have hlc := (hall.or hS (c := cx) (src_of_own HX3.out) hcx (by omega) hr).mono fun e w' h => many_out2 HB3.out (fun ad e _ => by have := (HX3.out.lt ad.block (by rw [e]; rfl)).1; omega) h
          have HLC := Lib.hid hlc
          have HRT := Lib.hid (HR.out.take HN.out hmN)
          obtain ⟨M, hM⟩ : ∃ M, M = X.take m := ⟨_, rfl⟩
          rw [← hM] at HLC HRT HML HTK
          clear hall hr hlc hM
          go_wp2_with fail
          refine HLC.out.mono ?_
          rintro e w2 ⟨y, rfl, hl2, hp2, H, hk2, hH2, hf2⟩
          have HPn := Lib.hid hp2
          have HRn := Lib.hid (RowP.after HRT.out hk2 hH2 hf2)
          have HFIN : Hid ((M ++ [y]).map SV.l = runO T (i + 1)) := Lib.hid (by
            rw [HST.out, List.map_append, HTK.out, stepO]
            simp only
            rw [HNR.out, HKO.out]
            simp [hl2, HDK.out])
          clear hl2 hp2 hk2 hH2 hf2 HLC
          have hra := HRn.out.own
          rw [HML.out] at hra
          have HRA := Lib.hid hra
          have hbz2 := HPn.out.below.size
          clear hra
          go_wp2_with (at_builtin; refine wpList_append_src _ rfl (.tmp 132) (.tmp 135) 60 rfl w.heap.size 28 i0 (.pointer none) 8 Try.underlying60 hi hz0 hz1 hz2 rfl _ m _ rfl (World.ownsRow.alloc HRA.out _) _ 1 1 _ rfl (one_ptr_src w2 y) (ptr_one [y]) (by unfold maxLen; omega) (by omega) (by simp; omega) ?_; intro v9 w9 hown hgrow hloc; obtain ⟨hr9, hp9, -, -⟩ := RowP.push hS HRn.out HPn.out (y := y) (by rw [HML.out]; exact hown) hgrow hloc; have HR9 := Lib.hid hr9; have HP9 := Lib.hid hp9; clear hown hgrow hloc hr9 hp9)
          go_roundw
          case rel => exact ⟨i + 1, M ++ [y], by omega, by go_num, HFIN.out, HP9.out, HR9.out⟩
          case measure => simp [intOf]; omega
        have e0 : (x1 == 0) = false := by simpa using c0
        have e1 : (x1 == 1) = false := by simpa using c1
        have e2 : (x1 == 2) = false := by simpa using c2
        have e3 : (x1 == 3) = false := by simpa using c3
        have e4 : (x1 == 4) = false := by simpa using c4
        have e5 : (x1 == 5) = false := by simpa using c5
        have e6 : (x1 == 6) = false := by simpa using c6
        have e7 : (x1 == 7) = false := by simpa using c7
        have HFIN : Hid (X.map SV.l = runO T (i + 1)) := Lib.hid (by rw [HST.out, HX.out, stepO]; simp [c0, c1, c2, c3, c4, c5, c6, c7])
        clear c0 c1 c2 c3 c4 c5 c6 c7
        go_wp2
        go_roundw
        case rel => exact ⟨i + 1, X, by omega, by go_num, HFIN.out, HP1.out, HR1.out⟩
        case measure => simp [intOf]; omega
    · obtain rfl : i = n := by omega
      have hlz : ¬ ((i : Int) < (i : Int)) := by omega
      have HWL : Hid (wantL T = (runO T i).getLastD []) := Lib.hid (by unfold wantL; rw [HLEN.out])
      by_cases hN0 : N = 0
      · have d0 : ((N : Int) == 0) = true := by rw [hN0]; rfl
        have HE : Hid (wantL T = []) := Lib.hid (by rw [HWL.out, List.eq_nil_of_length_eq_zero (HNR.out.trans hN0)]; rfl)
        have hX0 : X = [] := List.eq_nil_of_length_eq_zero (HN.out.trans hN0)
        have HX0 := Lib.hid hX0
        clear hN0 hX0
        go_wp2
        go_ret
        rw [HE.out]
        refine ⟨⟨none, [], fun _ => False⟩, rfl, rfl, ?_⟩
        have h1 := HP.out.nilset hS
        rw [HX0.out] at h1
        exact h1
      · have d0 : ((N : Int) == 0) = false := beq_eq_false_iff_ne.2 (by omega)
        obtain ⟨m, hm⟩ : ∃ m, N = m + 1 := ⟨N - 1, by omega⟩
        have hwa : IntKind.i64.wrap ((N : Int) - 1) = (m : Int) := by rw [show (N : Int) - 1 = (m : Int) by omega]; exact IntWalk.i64_in _ (by omega)
        have pm0 : (0 : Int) ≤ (m : Int) := by omega
        have pm1 : (m : Int) < (N : Int) := by omega
        have hxm : X[m]? = some (X[m]'(by rw [HN.out]; omega)) := List.getElem?_eq_getElem _
        obtain ⟨y, hy⟩ : ∃ y, y = X[m]'(by rw [HN.out]; omega) := ⟨_, rfl⟩
        rw [← hy] at hxm
        have hro := HR.out.own
        rw [HN.out] at hro
        have hsr := src_of_own hro
        cases Av with
        | none => have := hsr.nil rfl; omega
        | some ad =>
        have ea : wr.cell? (ad.add m) = some (.pointer y.p) := hsr.cells ad rfl m (ptr y) (by rw [List.getElem?_map, hxm]; rfl)
        have hsp : X = X.take m ++ [y] := by
          have h1 := List.take_append_drop m X
          have h2 : X.drop m = [y] := by
            have h3 : (X.drop m).length = 1 := by rw [List.length_drop, HN.out]; omega
            match hd : X.drop m, h3 with
            | [a], _ =>
              have e0 : (X.drop m)[0]? = some a := by rw [hd]; rfl
              rw [List.getElem?_drop, Nat.add_zero, hxm] at e0
              rw [Option.some.inj e0]
          rw [h2] at h1
          exact h1.symm
        have HPY : Hid (Pool S w wr G0 [y]) := Lib.hid (by have h1 := HP.out; rw [hsp] at h1; exact h1.right)
        have HWY : Hid (y.l = wantL T) := Lib.hid (by rw [HWL.out, ← HX.out, hsp]; simp)
        clear hm hxm hy hro hsr hsp hN0
        go_wp2
        go_ret
        exact ⟨y, rfl, HWY.out, HPY.out⟩
end Go.Proofs.Ytkligdaademakaa
