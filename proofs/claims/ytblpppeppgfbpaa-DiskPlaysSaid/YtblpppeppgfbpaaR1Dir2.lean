/- The document's disk: without, with, changed. -/
import Derived.Test.YtblpppeppgfbpaaR1Dir
import Derived.Test.YtblpppeppgfbpaaNames
import Derived.Sort.Walk0
namespace Go.Proofs.Ytblpppeppgfbpaa
open Go.RowKit Go.Maps Go.WideMaps

/-- A directory of the call's own. -/
def EntRow (w : World) (base : Nat) (v : Value) (d : Dir) : Prop := w.ownsRow base 78 2 v d.length (entCells d)
theorem ddel_snoc (d : Dir) (k : Nm) (p : Nm × Nat) : ddel (d ++ [p]) k = ddel d k ++ (if p.1 == k then [] else [p]) := by
  unfold ddel
  rw [List.filter_append]
  congr 1
  by_cases h : (p.1 == k) = true
  · simp [h]
  · simp [h]
theorem ent_cells_new (w : World) (k : Nm) (j : Nat) : ∀ i u, ([.string ⟨k.toArray⟩, .int .i64 j] : List Value)[i]? = some u → (w.alloc (.cells #[.string ⟨k.toArray⟩, .int .i64 j] 78)).cell? ((⟨w.heap.size, 0, none⟩ : Addr).add i) = some u := by
  intro i u hu
  rw [Addr.add_mid, cell_of_row _ _ _ _ _ _ (heap_alloc_new w _)]
  simpa using hu
theorem ent_one (k : Nm) (j : Nat) : ∀ u ∈ ([.string ⟨k.toArray⟩, .int .i64 j] : List Value), u.oneCell' = true := by
  intro u hu
  simp at hu
  rcases hu with rfl | rfl <;> rfl
theorem EntRow.snoc {w : World} {base : Nat} {v : Value} {d : Dir} {k : Nm} {j m : Nat} (h : w.ownsRow base 78 2 v (m + 1) (entCells d ++ [.string ⟨k.toArray⟩, .int .i64 j])) (hm : d.length = m) : EntRow w base v (d ++ [(k, j)]) := by
  unfold EntRow
  rw [entCells_app, List.length_append, hm]
  exact h

set_option maxHeartbeats 4000000 in
set_option maxRecDepth 100000 in
theorem r1without_any (w : World) (A : Option Addr) (n c : Nat) (d : Dir) (hd : DirIn w A n d) (k0 : Nm) :
    Calls Try.prog 63 #[.slice A n c, .string ⟨k0.toArray⟩] w fun e w' => ∃ v, e = .returned v ∧ EntRow w' w.heap.size v (ddel d k0) ∧ Below w.heap.size w w' := by
  obtain ⟨i0, hi, hz0, hz1, hz2⟩ := info_parts entInfo
  have HD := Lib.hid hd
  have hfit := hd.fit
  clear hd
  go_enter Try.func63, Try.ntmps63
  go_wp2
  go_loopw [5, 6] (fun v i wr => ∃ k : Nat, k ≤ n ∧ i = .int .i64 k ∧ EntRow wr w.heap.size v (ddel (d.take k) k0) ∧ Below w.heap.size w wr) (fun _ i _ => n - (intOf i).toNat)
  case atStart => exact ⟨0, by omega, rfl, ⟨rfl, .inl ⟨rfl, rfl⟩⟩, Below.refl _ _⟩
  case round =>
    obtain ⟨k, hk, rfl, hE, hB⟩ := hrel
    have HE := Lib.hid hE
    have HB := Lib.hid hB
    clear hE hB
    rcases Nat.lt_or_ge k n with hlt | hge
    · have hlt' : (k : Int) < (n : Int) := by omega
      have p0 : (0 : Int) ≤ (k : Int) := by omega
      obtain ⟨ad, ⟨pn, pf⟩, rfl, hp, c1, c2⟩ := (HD.out.below HB.out).at k hlt
      have HP := Lib.hid hp
      clear hp
      simp only at c1 c2
      have hstep : ddel (d.take (k + 1)) k0 = ddel (d.take k) k0 ++ (if pn == k0 then [] else [(pn, pf)]) := by rw [take_snocD HP.out, ddel_snoc]
      by_cases he : pn = k0
      · subst he
        rw [if_pos (by simp), List.append_nil] at hstep
        have HS := Lib.hid hstep
        clear hstep
        go_wp2
        go_roundw
        case rel => exact ⟨k + 1, by omega, by go_num, by rw [HS.out]; exact HE.out, HB.out⟩
        case measure => simp [intOf]; omega
      · have hne : (pn == k0) = false := by simpa using he
        rw [if_neg (by simpa using he)] at hstep
        have HS := Lib.hid hstep
        clear hstep he
        obtain ⟨m, hm⟩ : ∃ m, (ddel (d.take k) k0).length = m := ⟨_, rfl⟩
        have hmk : m ≤ k := by rw [← hm]; exact Nat.le_trans (length_ddel _ _) (by simp; omega)
        have hown := HE.out
        unfold EntRow at hown
        rw [hm] at hown
        have HO := Lib.hid hown
        have HM := Lib.hid hm
        clear hown hm
        go_wp2_with (at_builtin; refine wpList_append_own _ rfl _ _ 44 rfl w.heap.size 78 i0 _ 2 24 Try.underlying44 hi hz0 hz1 hz2 rfl (by decide) _ m _ rfl (World.ownsRow.alloc HO.out _) ⟨wr.heap.size, 0, none⟩ 1 1 [.string ⟨pn.toArray⟩, .int .i64 pf] rfl rfl (ent_cells_new wr pn pf) (ent_one pn pf) (by unfold maxLen; omega) (by omega) (by have := HB.out.size; simp; omega) ?_; intro v4 w4 hown4 hgrow4 hnil4; clear hnil4)
        have HB4 := Lib.hid ((HB.out.alloc HB.out.size _).grown hgrow4 (by have := HB.out.size; simp; omega) (fun g hg => (HO.out.lt g hg).1))
        have HO4 := Lib.hid (EntRow.snoc hown4 HM.out)
        clear hown4 hgrow4
        go_roundw
        case rel => exact ⟨k + 1, by omega, by go_num, by rw [HS.out]; exact HO4.out, HB4.out⟩
        case measure => simp [intOf]; omega
    · obtain rfl : k = n := by omega
      have hlz : ¬ ((k : Int) < (k : Int)) := by omega
      have htk : d.take k = d := List.take_of_length_le (by rw [HD.out.len]; exact Nat.le_refl _)
      have hE := HE.out
      rw [htk] at hE
      have HE2 := Lib.hid hE
      clear htk hE
      go_wp2
      go_ret
      exact ⟨_, rfl, HE2.out, HB.out⟩
theorem before_total : ∀ a b : List UInt8, a ≠ b → bytesBefore a b = false → bytesBefore b a = true
  | [], [], h, _ => absurd rfl h
  | [], _ :: _, _, h => by simp [bytesBefore] at h
  | _ :: _, [], _, _ => by simp [bytesBefore]
  | a :: r, b :: s, hn, h => by
    simp only [bytesBefore, Bool.or_eq_false_iff, decide_eq_false_iff_not, Bool.and_eq_false_iff] at h
    simp only [bytesBefore, Bool.or_eq_true, Bool.and_eq_true, decide_eq_true_eq, beq_iff_eq]
    by_cases hab : a = b
    · subst hab
      refine .inr ⟨rfl, before_total r s (fun e => hn (by rw [e])) ?_⟩
      rcases h.2 with h2 | h2
      · simp at h2
      · exact h2
    · refine .inl ?_
      have h1 : ¬ a.toNat < b.toNat := fun e => h.1 (UInt8.lt_iff_toNat_lt.2 e)
      have h2 : a.toNat ≠ b.toNat := fun e => hab (UInt8.toNat_inj.1 e)
      exact UInt8.lt_iff_toNat_lt.2 (by omega)
theorem less_before (a b : List UInt8) : Op.bytesLess a b = bytesBefore a b := by
  rw [Go.Proofs.bytesLess_eq]
  cases h : bytesBefore a b with
  | true => simpa using (before_lt a b).1 h
  | false =>
    refine decide_eq_false fun e => ?_
    have h1 := (before_lt a b).2 e
    rw [h] at h1
    cases h1
theorem before_irrefl : ∀ a : List UInt8, bytesBefore a a = false
  | [] => rfl
  | a :: r => by simp [bytesBefore, before_irrefl r]
theorem before_asymm : ∀ a b : List UInt8, bytesBefore a b = true → bytesBefore b a = false := fun a b h => by
  cases h2 : bytesBefore b a with
  | false => rfl
  | true => exact absurd ((before_lt b a).1 h2) (List.lt_asymm ((before_lt a b).1 h))
/-- Behind what is not ahead of it. -/
theorem dins_step (k : Nm) (v : Nat) (p : Nm × Nat) (r : Dir) (h : bytesBefore k p.1 = false) : dins k v (p :: r) = p :: dins k v r := by
  simp only [dins]
  rw [if_neg (by rw [h]; exact Bool.false_ne_true)]
theorem dins_stop (k : Nm) (v : Nat) (p : Nm × Nat) (r : Dir) (h : bytesBefore k p.1 = true) : dins k v (p :: r) = (k, v) :: p :: r := by
  simp only [dins]
  rw [if_pos h]
theorem drop_cons {α : Type} {l : List α} {k : Nat} {x : α} (h : l[k]? = some x) : l.drop k = x :: l.drop (k + 1) := by
  obtain ⟨h1, h2⟩ := List.getElem?_eq_some_iff.1 h
  rw [← h2, List.getElem_cons_drop]
theorem EntRow.slice {w : World} {base : Nat} {v : Value} {d : Dir} (h : EntRow w base v d) : ∃ A c, v = .slice A d.length c := own_slice h

set_option maxHeartbeats 8000000 in
set_option maxRecDepth 100000 in
theorem r1with_any (w : World) (A : Option Addr) (n c : Nat) (d : Dir) (hd : DirIn w A n d) (k0 : Nm) (j : Nat) :
    Calls Try.prog 36 #[.slice A n c, .agg #[.string ⟨k0.toArray⟩, .int .i64 j]] w fun e w' => ∃ v, e = .returned v ∧ EntRow w' w.heap.size v (dput d k0 j) ∧ Below w.heap.size w w' := by
  obtain ⟨i0, hi, hz0, hz1, hz2⟩ := info_parts entInfo
  have HD := Lib.hid hd
  have hfit := hd.fit
  have hdl := length_ddel d k0
  rw [hd.len] at hdl
  clear hd
  go_enter Try.func36, Try.ntmps36
  go_wp2_with fail
  refine (r1without_any _ A n c d (HD.out.below ((Below.refl _ w).alloc (Nat.le_refl _) _)) k0).mono ?_
  rintro e w1 ⟨v1, rfl, hE, hB⟩
  obtain ⟨D, hD⟩ : ∃ D, D = ddel d k0 := ⟨_, rfl⟩
  obtain ⟨m, hm⟩ : ∃ m, m = D.length := ⟨_, rfl⟩
  rw [← hD] at hE hdl
  rw [← hm] at hdl
  obtain ⟨A1, c1, hv⟩ := hE.slice
  subst hv
  rw [← hm]
  have hb0 := (Below.refl w.heap.size w).alloc (Nat.le_refl _) (.cells #[.string ⟨k0.toArray⟩, .int .i64 j] 78)
  have HX1 := Lib.hid (Blk.below (Blk.new w 78 #[.string ⟨k0.toArray⟩, .int .i64 j]) hB (by simp))
  have HB := Lib.hid (below_then hb0 hB hb0.size)
  have hw1s : w.heap.size < w1.heap.size := by have := hB.size; simp at this; omega
  have HD1 := Lib.hid (DirIn.own (d := D) (n := m) (by have := hE; unfold EntRow at this; rw [← hm] at this; exact this) hm.symm (by omega))
  have HP := Lib.hid (show dput d k0 j = dins k0 j D by rw [hD]; rfl)
  have HNK := Lib.hid (show ∀ p ∈ D, p.1 ≠ k0 from fun p hp => by rw [hD] at hp; exact (mem_ddel.1 hp).2)
  have HML := Lib.hid hm
  clear hE hB hb0 hD hm HD
  go_wp2
  go_loopw [5, 6, 7] (fun v dn i wr => ∃ (k : Nat) (O : Dir) (q : Bool), k ≤ m ∧ i = .int .i64 k ∧ dn = .bool q ∧ (q = false → O = D.take k ∧ dins k0 j D = D.take k ++ dins k0 j (D.drop k)) ∧ (q = true → O ++ D.drop k = dins k0 j D) ∧ O.length ≤ k + 1 ∧ EntRow wr w1.heap.size v O ∧ Below w1.heap.size w1 wr) (fun _ _ i _ => m - (intOf i).toNat)
  case atStart => exact ⟨0, [], false, by omega, rfl, rfl, fun _ => ⟨rfl, rfl⟩, (fun h => by cases h), by simp, ⟨rfl, .inl ⟨rfl, rfl⟩⟩, Below.refl _ _⟩
  case round =>
    obtain ⟨k, O, q, hk, rfl, rfl, hq0, hq1, hOl, hE, hB⟩ := hrel
    have HE := Lib.hid hE
    have HB2 := Lib.hid hB
    have HQ0 := Lib.hid hq0
    have HQ1 := Lib.hid hq1
    have HBw := Lib.hid (below_then HB.out hB HB.out.size)
    have hx := HX1.out.below hB hw1s
    have x0 := hx.cell 0
    have x1 := hx.cell 1
    simp at x0 x1
    obtain ⟨o, ho⟩ : ∃ o, O.length = o := ⟨_, rfl⟩
    have hown := HE.out
    unfold EntRow at hown
    rw [ho] at hown hOl
    have HO := Lib.hid hown
    have HOL := Lib.hid ho
    clear hE hB hq0 hq1 hx hown ho
    rcases Nat.lt_or_ge k m with hlt | hge
    · have hlt' : (k : Int) < (m : Int) := by omega
      have p0 : (0 : Int) ≤ (k : Int) := by omega
      obtain ⟨ad, ⟨pn, pf⟩, rfl, hp, c1', c2'⟩ := (HD1.out.below HB2.out).at k hlt
      have HPP := Lib.hid hp
      clear hp
      simp only at c1' c2'
      have hdc := drop_cons HPP.out
      have HDC := Lib.hid hdc
      clear hdc
      cases q with
      | true =>
        have hq := HQ1.out rfl
        have HQ := Lib.hid hq
        clear hq
        go_wp2_with fail
        go_quiet (fail)
        go_wp2_with (at_builtin; refine wpList_append_own _ rfl _ _ 44 rfl w1.heap.size 78 i0 _ 2 24 Try.underlying44 hi hz0 hz1 hz2 rfl (by decide) _ o _ rfl (World.ownsRow.alloc (w := wr.drewN nq) HO.out _) ⟨(wr.drewN nq).heap.size, 0, none⟩ 1 1 [.string ⟨pn.toArray⟩, .int .i64 pf] rfl rfl (ent_cells_new (wr.drewN nq) pn pf) (ent_one pn pf) (by unfold maxLen; omega) (by omega) (by have := HB2.out.size; simp; omega) ?_; intro v4 w4 hown hgrow hnil; clear hnil; have HB4 := Lib.hid ((((below_drewN HB2.out nq).alloc HB2.out.size _).grown hgrow (by have := HB2.out.size; simp; omega) (fun g hg => (HO.out.lt g hg).1))); have HO4 := Lib.hid (EntRow.snoc hown HOL.out); clear hown hgrow)
        go_roundw
        case rel =>
          refine ⟨k + 1, O ++ [(pn, pf)], true, by omega, by go_num, rfl, (fun h => by cases h), fun _ => ?_, by rw [List.length_append, HOL.out]; simp; omega, HO4.out, HB4.out⟩
          have := HQ.out
          rw [HDC.out] at this
          rw [List.append_assoc]
          exact this
        case measure => simp [intOf]; omega
      | false =>
        have hq := HQ0.out rfl
        have HQ := Lib.hid hq
        clear hq
        by_cases hb : bytesBefore k0 pn = true
        · have g1 : Op.bytesLess pn k0 = false := by rw [less_before]; exact before_asymm _ _ hb
          have g2 : (pn == k0) = false := by simpa using HNK.out (pn, pf) (List.mem_of_getElem? HPP.out)
          go_wp2_with fail
          go_quiet (fail)
          go_wp2_with (first
            | (at_builtin; refine wpList_append_own _ rfl _ _ 44 rfl w1.heap.size 78 i0 _ 2 24 Try.underlying44 hi hz0 hz1 hz2 rfl (by decide) _ o _ rfl (World.ownsRow.alloc (w := wr.drewN nq) HO.out _) ⟨(wr.drewN nq).heap.size, 0, none⟩ 1 1 [.string ⟨k0.toArray⟩, .int .i64 j] rfl rfl (ent_cells_new (wr.drewN nq) k0 j) (ent_one k0 j) (by unfold maxLen; omega) (by omega) (by have := HB2.out.size; simp; omega) ?_; intro v4 w4 hown hgrow hnil; clear hnil; have HB4 := Lib.hid ((((below_drewN HB2.out nq).alloc HB2.out.size _).grown hgrow (by have := HB2.out.size; simp; omega) (fun g hg => (HO.out.lt g hg).1))); have HO4 := Lib.hid (EntRow.snoc hown HOL.out); have hsz4 : w1.heap.size ≤ w4.heap.size := HB4.out.size; obtain ⟨ad', p', e1, e2, f1, f2⟩ := (HD1.out.below HB4.out).at k hlt; cases e1; rw [HPP.out] at e2; cases e2; simp only at f1 f2; have hO5 : w4.ownsRow w1.heap.size 78 2 v4 (o + 1) (entCells (O ++ [(k0, j)])) := (by have h := HO4.out; unfold EntRow at h; rw [List.length_append, HOL.out] at h; exact h); have HO5 := Lib.hid hO5; clear hown hgrow hO5)
            | (at_builtin; refine wpList_append_own _ rfl _ _ 44 rfl w1.heap.size 78 i0 _ 2 24 Try.underlying44 hi hz0 hz1 hz2 rfl (by decide) _ (o + 1) _ rfl (World.ownsRow.alloc (w := w4) HO5.out _) ⟨(w4).heap.size, 0, none⟩ 1 1 [.string ⟨pn.toArray⟩, .int .i64 pf] rfl rfl (ent_cells_new (w4) pn pf) (ent_one pn pf) (by unfold maxLen; omega) (by omega) (by simp; omega) ?_; intro v5 w5 hown hgrow hnil; clear hnil; have HB5 := Lib.hid ((HB4.out.alloc HB4.out.size _).grown hgrow (by simp; omega) (fun g hg => (HO5.out.lt g hg).1)); have HO6 := Lib.hid (EntRow.snoc (d := O ++ [(k0, j)]) hown (by rw [List.length_append, HOL.out]; rfl)); clear hown hgrow))
          go_roundw
          case rel =>
            refine ⟨k + 1, O ++ [(k0, j)] ++ [(pn, pf)], true, by omega, by go_num, rfl, (fun h => by cases h), fun _ => ?_, ?_, HO6.out, HB5.out⟩
            · obtain ⟨h1, h2⟩ := HQ.out
              rw [h2, HDC.out, dins_stop _ _ _ _ hb, h1]
              simp
            · rw [List.length_append, List.length_append, HOL.out]
              obtain ⟨h1, _⟩ := HQ.out
              have h3 := HOL.out
              rw [h1, List.length_take] at h3
              simp only [List.length_cons, List.length_nil]
              omega
          case measure => simp [intOf]; omega
        · have hb' : bytesBefore k0 pn = false := by simpa using hb
          have g1 : Op.bytesLess pn k0 = true := by
            rw [less_before]
            exact before_total _ _ (fun e => HNK.out (pn, pf) (List.mem_of_getElem? HPP.out) e.symm) hb'
          clear hb
          go_wp2_with fail
          go_quiet (fail)
          go_wp2_with (at_builtin; refine wpList_append_own _ rfl _ _ 44 rfl w1.heap.size 78 i0 _ 2 24 Try.underlying44 hi hz0 hz1 hz2 rfl (by decide) _ o _ rfl (World.ownsRow.alloc (w := wr.drewN nq) HO.out _) ⟨(wr.drewN nq).heap.size, 0, none⟩ 1 1 [.string ⟨pn.toArray⟩, .int .i64 pf] rfl rfl (ent_cells_new (wr.drewN nq) pn pf) (ent_one pn pf) (by unfold maxLen; omega) (by omega) (by have := HB2.out.size; simp; omega) ?_; intro v4 w4 hown hgrow hnil; clear hnil; have HB4 := Lib.hid ((((below_drewN HB2.out nq).alloc HB2.out.size _).grown hgrow (by have := HB2.out.size; simp; omega) (fun g hg => (HO.out.lt g hg).1))); have HO4 := Lib.hid (EntRow.snoc hown HOL.out); clear hown hgrow)
          go_roundw
          case rel =>
            refine ⟨k + 1, O ++ [(pn, pf)], false, by omega, by go_num, rfl, fun _ => ?_, (fun h => by cases h), by rw [List.length_append, HOL.out]; simp; omega, HO4.out, HB4.out⟩
            obtain ⟨h1, h2⟩ := HQ.out
            rw [h1, take_snocD HPP.out]
            refine ⟨rfl, ?_⟩
            rw [h2, HDC.out, dins_step _ _ _ _ hb']
            simp
          case measure => simp [intOf]; omega
    · obtain rfl : k = m := by omega
      have hlz : ¬ ((k : Int) < (k : Int)) := by omega
      cases q with
      | true =>
        have hfin : O = dput d k0 j := by
          have := HQ1.out rfl
          rw [List.drop_of_length_le (by rw [← HML.out]; exact Nat.le_refl _), List.append_nil] at this
          rw [HP.out]; exact this
        have HF := Lib.hid hfin
        clear hfin
        go_wp2
        go_ret
        exact ⟨_, rfl, by rw [← HF.out]; exact Go.Joins.ownsRow_le HE.out (by omega), HBw.out⟩
      | false =>
        have hfin : O ++ [(k0, j)] = dput d k0 j := by
          obtain ⟨h1, h2⟩ := HQ0.out rfl
          rw [HP.out, h2, h1, List.drop_of_length_le (by rw [← HML.out]; exact Nat.le_refl _)]
          rfl
        have HF := Lib.hid hfin
        clear hfin
        go_wp2_with (at_builtin; refine wpList_append_own _ rfl _ _ 44 rfl w1.heap.size 78 i0 _ 2 24 Try.underlying44 hi hz0 hz1 hz2 rfl (by decide) _ o _ rfl (World.ownsRow.alloc (w := wr) HO.out _) ⟨(wr).heap.size, 0, none⟩ 1 1 [.string ⟨k0.toArray⟩, .int .i64 j] rfl rfl (ent_cells_new (wr) k0 j) (ent_one k0 j) (by unfold maxLen; omega) (by omega) (by have := HB2.out.size; simp; omega) ?_; intro v4 w4 hown hgrow hnil; clear hnil; have HB4 := Lib.hid (((HB2.out.alloc HB2.out.size _).grown hgrow (by have := HB2.out.size; simp; omega) (fun g hg => (HO.out.lt g hg).1))); have HO4 := Lib.hid (EntRow.snoc hown HOL.out); clear hown hgrow)
        go_ret
        exact ⟨_, rfl, by rw [← HF.out]; exact Go.Joins.ownsRow_le HO4.out (by omega), below_then HB.out HB4.out HB.out.size⟩

/-- A change as the document keeps it. -/
structure RCh where
  frm : Nm
  to : Nm
  file : Nat
def RCh.val (c : RCh) : Value := .agg #[.string ⟨c.frm.toArray⟩, .string ⟨c.to.toArray⟩, .int .i64 c.file]
def RCh.eff (c : RCh) (d : Dir) : Dir :=
  if c.to = [] then (if c.frm = [] then d else ddel d c.frm) else dput (if c.frm = [] then d else ddel d c.frm) c.to c.file
/-- A directory that a call answers: a new one, or the one that came. -/
def DirOut (w : World) (A : Option Addr) (d0 d : Dir) (e : Ending) (w' : World) : Prop :=
  ∃ A' c', e = .returned (.slice A' d.length c') ∧ DirIn w' A' d.length d ∧ (A' = A ∧ d = d0 ∨ ∀ ad, A' = some ad → w.heap.size ≤ ad.block) ∧ Below w.heap.size w w'
theorem EntRow.out {w w' : World} {v : Value} {d : Dir} (h : EntRow w' w.heap.size v d) (hl : d.length ≤ 1099511627776) : ∃ A' c', v = .slice A' d.length c' ∧ DirIn w' A' d.length d ∧ ∀ ad, A' = some ad → w.heap.size ≤ ad.block := by
  obtain ⟨A', c', rfl⟩ := h.slice
  refine ⟨A', c', rfl, DirIn.own h rfl hl, fun ad e => ?_⟩
  exact (World.ownsRow.lt h ad.block (by rw [e]; rfl)).1

set_option maxHeartbeats 8000000 in
set_option maxRecDepth 100000 in
theorem r1changed_any (w : World) (A : Option Addr) (n c : Nat) (d : Dir) (hd : DirIn w A n d) (hn : n ≤ 1000000) (x : RCh) :
    Calls Try.prog 72 #[.slice A n c, x.val] w (DirOut w A d (x.eff d)) := by
  have HD := Lib.hid hd
  have hln := hd.len
  have HLN := Lib.hid hln
  obtain ⟨frm, to, file⟩ := x
  unfold RCh.val RCh.eff
  simp only
  clear hd hln
  have hB0 := (Below.refl w.heap.size w).alloc (Nat.le_refl _) (.cells #[.string ⟨frm.toArray⟩, .string ⟨to.toArray⟩, .int .i64 file] 92)
  have HD0 := Lib.hid (HD.out.below hB0)
  by_cases hf : frm = []
  · subst hf
    rw [if_pos rfl]
    by_cases ht : to = []
    · subst ht
      rw [if_pos rfl]
      go_enter Try.func72, Try.ntmps72
      go_wp2
      go_ret
      exact ⟨A, c, by rw [HLN.out]; rfl, by rw [HLN.out]; exact HD0.out, .inl ⟨rfl, rfl⟩, hB0⟩
    · rw [if_neg ht]
      have ht1 : (to == []) = false := by simpa using ht
      have HT := Lib.hid ht
      clear ht
      have HB0 := Lib.hid hB0
      clear hB0
      go_enter Try.func72, Try.ntmps72
      go_wp2_with fail
      refine (r1with_any _ A n c d HD0.out to file).mono ?_
      rintro e w2 ⟨v, rfl, hE, hB⟩
      have hl := length_dput d to file
      obtain ⟨A', c', rfl, h1, h2⟩ := EntRow.out hE (by rw [HLN.out] at hl; omega)
      have B2 := Lib.hid (below_then HB0.out hB HB0.out.size)
      have H1 := Lib.hid h1
      have H2 := Lib.hid h2
      clear hE hB h1 h2
      go_wp2
      go_ret
      refine ⟨A', c', rfl, H1.out, ?_, B2.out⟩
      exact .inr fun ad e => by have := H2.out ad e; simp at this; omega
  · rw [if_neg hf]
    have hf1 : (frm == []) = false := by simpa using hf
    have hl1 := length_ddel d frm
    rw [HLN.out] at hl1
    have HB0 := Lib.hid hB0
    have HX0 := Lib.hid (Blk.new w 92 #[.string ⟨frm.toArray⟩, .string ⟨to.toArray⟩, .int .i64 file])
    clear hf hB0
    by_cases ht : to = []
    · subst ht
      rw [if_pos rfl]
      go_enter Try.func72, Try.ntmps72
      go_wp2_with fail
      refine (r1without_any _ A n c d HD0.out frm).mono ?_
      rintro e w2 ⟨v, rfl, hE, hB⟩
      obtain ⟨A', c', rfl, h1, h2⟩ := EntRow.out hE (by omega)
      have B2 := Lib.hid (below_then HB0.out hB HB0.out.size)
      have hx := HX0.out.below hB (by simp)
      have x1 := hx.cell 1
      simp at x1
      have H1 := Lib.hid h1
      have H2 := Lib.hid h2
      clear hE hB h1 h2 hx
      go_wp2
      go_ret
      refine ⟨A', c', rfl, H1.out, ?_, B2.out⟩
      exact .inr fun ad e => by have := H2.out ad e; simp at this; omega
    · rw [if_neg ht]
      have ht1 : (to == []) = false := by simpa using ht
      clear ht
      go_enter Try.func72, Try.ntmps72
      go_wp2_with fail
      refine (r1without_any _ A n c d HD0.out frm).mono ?_
      rintro e w2 ⟨v, rfl, hE, hB⟩
      obtain ⟨A', c', rfl, h1, h2⟩ := EntRow.out hE (by omega)
      have B2 := Lib.hid (below_then HB0.out hB HB0.out.size)
      have hx := HX0.out.below hB (by simp)
      have x1 := hx.cell 1
      have x2 := hx.cell 2
      simp at x1 x2
      have H1 := Lib.hid h1
      obtain ⟨m, hm⟩ : ∃ m, (ddel d frm).length = m := ⟨_, rfl⟩
      rw [hm] at H1 hl1 ⊢
      clear hE hB h1 h2 hx
      go_wp2_with fail
      refine (r1with_any _ A' m c' (ddel d frm) H1.out to file).mono ?_
      rintro e w3 ⟨v, rfl, hE, hB⟩
      have hl := length_dput (ddel d frm) to file
      obtain ⟨A3, c3, rfl, h3, h4⟩ := EntRow.out hE (by rw [hm] at hl; omega)
      have B3 := Lib.hid (below_then B2.out hB B2.out.size)
      have hs2 := B2.out.size
      have H3 := Lib.hid h3
      have H4 := Lib.hid h4
      clear hE hB h3 h4
      go_wp2
      go_ret
      refine ⟨A3, c3, rfl, H3.out, ?_, B3.out⟩
      exact .inr fun ad e => by have := H4.out ad e; omega
end Go.Proofs.Ytblpppeppgfbpaa
