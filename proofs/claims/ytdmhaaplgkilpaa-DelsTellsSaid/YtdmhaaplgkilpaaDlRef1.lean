/- The document's Dels: New, Has, Add. -/
import Derived.Test.YtdmhaaplgkilpaaDlMath3
import Derived.Test.YtdmhaaplgkilpaaKInts
import Derived.Test.YtdmhaaplgkilpaaKOwn
import Derived.BigQuiet
namespace Go.Proofs.Ytdmhaaplgkilpaa
open Go.RowKit Go.Maps Go.WideMaps
set_option linter.unusedSimpArgs false

/-- The document's Dels at b, with its row v of those that are deleted, all newer than base. -/
structure RAt (w : World) (base b : Nat) (s : DSt) (L : List Int) (v : Value) : Prop where
  blk : Blk w b 34 #[.int .i64 s.n, v]
  row : w.ownsRow base 2 1 v L.length (L.map i64V)
  few : s.n ≤ 64
  rng : ∀ x ∈ L, 0 ≤ x ∧ x < (s.n : Int)
  mem : ∀ i : Nat, s.f i = decide ((i : Int) ∈ L)
  cnt : L.length = dMany s
  new : base ≤ b
section
variable {w w' : World} {base b : Nat} {s : DSt} {L : List Int} {v : Value}
theorem RAt.len (h : RAt w base b s L v) : L.length ≤ 64 := by
  have h1 := dMany_live s
  have h2 := h.cnt
  have h3 := h.few
  omega
theorem RAt.fits (h : RAt w base b s L v) : ∀ x ∈ L, -9223372036854775808 ≤ x ∧ x ≤ 9223372036854775807 := fun x hx => by
  have h1 := h.rng x hx
  have h2 := h.few
  omega
theorem RAt.apart (h : RAt w base b s L v) : v.ownBlock ≠ some b := own_blk_ne h.row h.blk (by decide)
theorem RAt.keep {F : Nat → Prop} (h : RAt w base b s L v) (hk : Kept F w w') (hb : ¬ F b) (hv : ∀ g, v.ownBlock = some g → ¬ F g) : RAt w' base b s L v :=
  ⟨h.blk.kept hk hb, ownsRow_kept h.row hk hv, h.few, h.rng, h.mem, h.cnt, h.new⟩
theorem RAt.later (h : RAt w base b s L v) (hb : Below w.heap.size w w') : RAt w' base b s L v :=
  ⟨h.blk.below hb h.blk.lt, ownsRow_block h.row fun g hg => hb.block g (h.row.lt g hg).2, h.few, h.rng, h.mem, h.cnt, h.new⟩
theorem RAt.drewN (h : RAt w base b s L v) (q : Nat) : RAt (w.drewN q) base b s L v := h.later (below_drewN (Below.refl _ w) q)
/-- Is it deleted? -/
theorem RAt.has (h : RAt w base b s L v) (i : Int) : dHas s i = decide (i ∈ L) := by
  unfold dHas
  by_cases hi : 0 ≤ i ∧ i < (s.n : Int)
  · rw [decide_eq_true hi, Bool.true_and, h.mem, decide_eq_decide, Int.toNat_of_nonneg hi.1]
  · rw [decide_eq_false hi, Bool.false_and, eq_comm, decide_eq_false_iff_not]
    exact fun hm => hi (h.rng i hm)
end
theorem ri64 : 2 ≠ 34 := by decide
set_option maxHeartbeats 4000000 in
set_option maxRecDepth 100000 in
theorem r14New_yes (w : World) (k : Nat) (h1 : k ≤ 64) :
    Calls Try.prog 15 #[.int .i64 k] w fun e w' => e = .returned (.pointer (some ⟨w.heap.size, 0, none⟩)) ∧ RAt w' w.heap.size w.heap.size (dNew k) [] (.slice none 0 0) ∧ Below w.heap.size w w' := by
  have h2 : ¬ (k : Int) < 0 := by omega
  have h3 : ¬ (64 : Int) < (k : Int) := by omega
  go_enter Try.func15, Try.ntmps15
  go_wp2
  go_ret
  refine ⟨rfl, ⟨Blk.new _ _ _, ⟨rfl, .inl ⟨rfl, rfl⟩⟩, h1, (fun x hx => by cases hx), (fun i => rfl), ?_, Nat.le_refl _⟩, (Below.refl _ w).alloc (Nat.le_refl _) _⟩
  unfold dMany dNew
  rw [eq_comm, List.length_nil, List.countP_eq_zero]
  intro i hi h
  cases h
set_option maxHeartbeats 4000000 in
set_option maxRecDepth 100000 in
theorem r14New_no (w : World) (n : Int) (h : ¬ (0 ≤ n ∧ n ≤ 64)) :
    Calls Try.prog 15 #[.int .i64 n] w fun e w' => e = .returned (.pointer none) ∧ w' = w := by
  by_cases h0 : 0 ≤ n
  · have h2 : ¬ n < 0 := by omega
    have h3 : (64 : Int) < n := by omega
    clear h h0
    go_enter Try.func15, Try.ntmps15
    go_wp2
    go_ret
    exact ⟨rfl, rfl⟩
  · have h2 : n < 0 := by omega
    clear h h0
    go_enter Try.func15, Try.ntmps15
    go_wp2
    go_ret
    exact ⟨rfl, rfl⟩

set_option maxHeartbeats 4000000 in
set_option maxRecDepth 100000 in
theorem r14Has_any {w : World} {base b : Nat} {s : DSt} {L : List Int} {v : Value} (h : RAt w base b s L v) (i : Int) :
    Calls Try.prog 19 #[.pointer (some ⟨b, 0, none⟩), .int .i64 i] w fun e w' => e = .returned (.bool (dHas s i)) ∧ w' = w := by
  rw [h.has]
  have hlen := h.len
  have c1 := h.blk.cell 1
  simp only [List.getElem?_toArray, List.getElem?_cons_zero, List.getElem?_cons_succ] at c1
  obtain ⟨A, c, hv⟩ := own_slice h.row
  subst hv
  have HI : Hid (IntsIn w A L.length L) := Lib.hid (IntsIn.own h.row (by unfold maxLen; omega) h.fits)
  obtain ⟨n, hn⟩ : ∃ n, n = L.length := ⟨_, rfl⟩
  rw [← hn] at HI c1 hlen
  have HN := Lib.hid hn
  clear h hn
  go_enter Try.func19, Try.ntmps19
  go_wp2
  go_loopw [5] (fun kv wr => ∃ (k : Nat), k ≤ n ∧ kv = .int .i64 k ∧ (¬ i ∈ L.take k) ∧ wr = w) (fun kv _ => n - (intOf kv).toNat)
  case atStart => exact ⟨0, by omega, rfl, by simp, rfl⟩
  case round =>
    obtain ⟨k, hk, rfl, hni, rfl⟩ := hrel
    have HNI := Lib.hid hni
    clear hni
    rcases Nat.lt_or_ge k n with hlt | hge
    · have hlt' : (k : Int) < (n : Int) := by omega
      have p0 : (0 : Int) ≤ (k : Int) := by omega
      have hw1 : IntKind.i64.wrap ((k : Int) + 1) = (k : Int) + 1 := IntWalk.i64_in _ (by omega)
      obtain ⟨pa, y, rfl, hy, y0, -, -⟩ := HI.out.at k hlt
      have HY := Lib.hid hy
      clear hy
      by_cases he : y = i
      · subst he
        have HR : Hid (decide (y ∈ L) = true) := Lib.hid (decide_eq_true (List.mem_of_getElem? HY.out))
        go_wp2
        go_ret
        exact ⟨by rw [HR.out]; rfl, rfl⟩
      · have d1 : (y == i) = false := by simpa using he
        have HE := Lib.hid he
        clear he
        go_wp2
        go_roundw
        case rel =>
          refine ⟨k + 1, by omega, by go_num, ?_, trivial⟩
          rw [List.take_add_one, HY.out]
          intro hm
          rcases List.mem_append.1 hm with hm | hm
          · exact HNI.out hm
          · simp at hm
            exact HE.out hm.symm
        case measure => simp [intOf]; omega
    · have hlz : ¬ ((k : Int) < (n : Int)) := by omega
      have HR : Hid (decide (i ∈ L) = false) := Lib.hid (decide_eq_false fun hm => HNI.out (by rw [List.take_of_length_le (by have := HN.out; omega)]; exact hm))
      go_wp2
      go_ret
      exact ⟨by rw [HR.out]; rfl, rfl⟩

theorem rAdd_state {w : World} {base b : Nat} {s : DSt} {L : List Int} {v : Value} (h : RAt w base b s L v) {i : Int} (hc : dCan s i = true) :
    (∀ k : Nat, (dAdd s i).f k = decide ((k : Int) ∈ L ++ [i])) ∧ (L ++ [i]).length = dMany (dAdd s i) ∧ ∀ x ∈ L ++ [i], 0 ≤ x ∧ x < ((dAdd s i).n : Int) := by
  obtain ⟨I, rfl, hI, hf⟩ := can_iff hc
  refine ⟨fun k => ?_, ?_, fun x hx => ?_⟩
  · unfold dAdd dSet
    rw [if_pos hc]
    simp only
    rw [h.mem, Bool.eq_iff_iff]
    simp
  · have := many_set hI hf
    unfold dAdd
    rw [if_pos hc, this, List.length_append, h.cnt]
    rfl
  · rw [dAdd_n]
    rcases List.mem_append.1 hx with hx | hx
    · exact h.rng x hx
    · obtain rfl := List.mem_singleton.1 hx
      omega
theorem own_alloc64r {w : World} {base n : Nat} {v : Value} {xs : List Value} (h : w.ownsRow base 2 1 v n xs) (o : Obj) : (w.alloc o).ownsRow base 2 1 v n xs := World.ownsRow.alloc h o
theorem intInfoR : (Try.prog.info? 2).map (fun i => (i.zero, i.size, i.bytes)) = some (some (.int .i64 0), 1, 8) := by kernel_rfl
set_option maxHeartbeats 8000000 in
set_option maxRecDepth 100000 in
theorem r14Add_any {w : World} {base b : Nat} {s : DSt} {L : List Int} {v : Value} (h : RAt w base b s L v) (hbase : base ≤ w.heap.size) (i : Int) (hi : -9223372036854775808 ≤ i ∧ i ≤ 9223372036854775807) :
    Calls Try.prog 17 #[.pointer (some ⟨b, 0, none⟩), .int .i64 i] w fun e w' => e = .returned (.bool (dCan s i)) ∧ ∃ L' v', RAt w' base b (dAdd s i) L' v' ∧ Kept (fun k => k = b ∨ v.ownBlock = some k) w w' ∧ (v'.ownBlock = v.ownBlock ∨ ∀ g, v'.ownBlock = some g → w.heap.size ≤ g) := by
  have HR := Lib.hid h
  have HH := Lib.hid (r14Has_any h i)
  have c0 := h.blk.cell 0
  have c1 := h.blk.cell 1
  have z1 := h.blk.frozen 1
  simp only [List.getElem?_toArray, List.getElem?_cons_zero, List.getElem?_cons_succ] at c0 c1
  have hlen := h.len
  have hfew := h.few
  have hbl := h.blk.lt
  obtain ⟨i0, hi0, hz0, hz1, hz2⟩ := info_parts intInfoR
  obtain ⟨th, hth⟩ : ∃ th, th = dHas s i := ⟨_, rfl⟩
  have HTH := Lib.hid hth
  rw [← hth] at HH
  obtain ⟨N, hN⟩ : ∃ N, N = s.n := ⟨_, rfl⟩
  have HNN := Lib.hid hN
  rw [← hN] at c0 hfew
  have hcan : dCan s i = (!th && decide (0 ≤ i ∧ i < (N : Int))) := by
    rw [hth, hN]
    unfold dCan dHas
    cases decide (0 ≤ i ∧ i < (s.n : Int)) <;> cases s.f i.toNat <;> rfl
  have HCAN := Lib.hid hcan
  clear h hth hN hcan
  have HNO : Hid (dCan s i = false → ∃ L' v', RAt w base b (dAdd s i) L' v' ∧ Kept (fun k => k = b ∨ v.ownBlock = some k) w w ∧ (v'.ownBlock = v.ownBlock ∨ ∀ g, v'.ownBlock = some g → w.heap.size ≤ g)) := Lib.hid (fun hc => by
    unfold dAdd
    rw [if_neg (by rw [hc]; decide)]
    exact ⟨L, v, HR.out, Kept.refl _ _, .inl rfl⟩)
  cases th with
  | true =>
    have hcf : dCan s i = false := by rw [HCAN.out]; rfl
    rw [hcf]
    have HCF := Lib.hid hcf
    clear hcf
    go_enter Try.func17, Try.ntmps17
    go_wp2_with fail
    refine HH.out.mono ?_
    rintro e w1 ⟨rfl, rfl⟩
    go_wp2
    go_ret
    exact ⟨rfl, HNO.out HCF.out⟩
  | false =>
    by_cases hp : 0 ≤ i
    · by_cases hq : i < (N : Int)
      · have hct : dCan s i = true := by rw [HCAN.out, decide_eq_true (⟨hp, hq⟩ : 0 ≤ i ∧ i < (N : Int))]; rfl
        rw [hct]
        have HCT := Lib.hid hct
        have d1 : ¬ i < 0 := by omega
        have d2 : ¬ (N : Int) ≤ i := by omega
        obtain ⟨A, c, hv⟩ := own_slice HR.out.row
        subst hv
        have HO2 := Lib.hid (own_alloc64r HR.out.row (.cells #[.int .i64 i] 2))
        have HSRC := Lib.hid (one_int_src w 2 i)
        obtain ⟨m, hm⟩ : ∃ m, m = L.length := ⟨_, rfl⟩
        rw [← hm] at HO2 c1 hlen ⊢
        have HM := Lib.hid hm
        have HK2 : Hid (Kept (fun k => k = b ∨ (Value.slice A m c).ownBlock = some k) w (w.alloc (.cells #[.int .i64 i] 2))) := Lib.hid ((Kept.refl _ w).alloc _)
        have hap := HR.out.apart
        rw [← hm] at hap
        have HAP := Lib.hid hap
        have HBK := Lib.hid (HR.out.blk.alloc (.cells #[.int .i64 i] 2))
        rw [← hm] at HBK
        clear hct hm hap
        go_enter Try.func17, Try.ntmps17
        go_wp2_with fail
        refine HH.out.mono ?_
        rintro e w1 ⟨rfl, rfl⟩
        go_wp2_with (at_builtin; refine wpList_append_src _ rfl (.tmp 26) (.tmp 28) 22 rfl base 2 i0 (.int .i64 0) 8 Try.underlying22 hi0 hz0 hz1 hz2 rfl _ m (L.map i64V) rfl HO2.out _ 1 1 ([i].map i64V) rfl HSRC.out (i64V_one _) (by unfold maxLen; omega) (by omega) (by simp; omega) ?_; intro v3 w3 hown hgrow hloc; obtain ⟨A3, c3, hv3⟩ := own_slice hown; subst hv3; have HO3 := Lib.hid hown; have HK3 := Lib.hid (HK2.out.grown hgrow (fun k e => .inl (.inr e.symm.symm))); have HB3 := Lib.hid (HBK.out.grown hgrow (fun e => HAP.out e.symm)); have HLOC := Lib.hid hloc; have c3' := HB3.out.cell 1; have z3 := HB3.out.frozen 1; simp only [List.getElem?_toArray, List.getElem?_cons_zero, List.getElem?_cons_succ] at c3'; clear hown hgrow hloc)
        go_ret
        obtain ⟨q1, q2, q3⟩ := rAdd_state HR.out HCT.out
        have hne : (Value.slice A3 (m + 1) c3).ownBlock ≠ some b := own_blk_ne HO3.out HB3.out (by decide)
        have hll : (L ++ [i]).length = m + 1 := by rw [List.length_append, HM.out]; rfl
        refine ⟨rfl, L ++ [i], .slice A3 (m + 1) c3, ⟨?_, ?_, by rw [dAdd_n]; exact HR.out.few, q3, q1, q2, HR.out.new⟩, HK3.out.setCell (.inl (.inl rfl)) _, ?_⟩
        · rw [dAdd_n]
          have := HB3.out.set_ 1 (.slice A3 (m + 1) c3)
          exact this
        · rw [hll, List.map_append]
          exact ownsRow_block HO3.out fun g hg => heap_setCell_other _ _ _ (fun e => hne (by rw [hg, e]))
        · rcases HLOC.out with h1 | h1
          · exact .inl h1
          · refine .inr fun g hg => ?_
            rw [h1] at hg
            have := Option.some.inj hg
            simp at this
            omega
      · have hcf : dCan s i = false := by rw [HCAN.out, decide_eq_false (fun e : 0 ≤ i ∧ i < (N : Int) => hq e.2)]; rfl
        rw [hcf]
        have HCF := Lib.hid hcf
        have d1 : ¬ i < 0 := by omega
        have d2 : (N : Int) ≤ i := by omega
        clear hcf
        go_enter Try.func17, Try.ntmps17
        go_wp2_with fail
        refine HH.out.mono ?_
        rintro e w1 ⟨rfl, rfl⟩
        go_wp2
        go_ret
        exact ⟨rfl, HNO.out HCF.out⟩
    · have hcf : dCan s i = false := by rw [HCAN.out, decide_eq_false (fun e : 0 ≤ i ∧ i < (N : Int) => hp e.1)]; rfl
      rw [hcf]
      have HCF := Lib.hid hcf
      have d1 : i < 0 := by omega
      clear hcf
      go_enter Try.func17, Try.ntmps17
      go_wp2_with fail
      refine HH.out.mono ?_
      rintro e w1 ⟨rfl, rfl⟩
      go_wp2
      go_ret
      exact ⟨rfl, HNO.out HCF.out⟩
end Go.Proofs.Ytdmhaaplgkilpaa
