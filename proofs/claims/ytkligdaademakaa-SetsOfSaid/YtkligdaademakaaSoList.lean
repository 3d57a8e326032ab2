/- The landed sets: List. -/
import Derived.Test.YtkligdaademakaaZp1
import Derived.Test.YtkligdaademakaaSeCut
import Derived.Test.YtkligdaademakaaSeLen
import Derived.Test.YtkligdaademakaaZp6
namespace Go.Proofs.Ytkligdaademakaa
open Go.RowKit Go.Maps Go.WideMaps Go.Shelf
set_option linter.unusedSimpArgs false

def BinOut (w : World) (n : Nat) (d : Int) (l : List Int) (e : Ending) (w' : World) : Prop := w' = w ∧ ∃ (k : Nat) (f : Bool), k ≤ n ∧ e = .returned (.tuple #[.int .i64 k, .bool f]) ∧ fromL d l = l.drop k
theorem up_at {l : List Int} {p x : Int} {h : Nat} (hr : rises p l = true) (hx : l[h]? = some x) : (∀ y ∈ l.take (h + 1), y ≤ x) ∧ ∀ y ∈ l.drop h, x ≤ y := by
  induction l generalizing p h with
  | nil => cases hx
  | cons z r ih =>
    simp only [rises, Bool.and_eq_true, decide_eq_true_eq] at hr
    cases h with
    | zero =>
      simp only [List.getElem?_cons_zero, Option.some.injEq] at hx
      subst hx
      refine ⟨by simp, fun y hy => ?_⟩
      rcases List.mem_cons.1 hy with h1 | h1
      · omega
      · have := rises_gt hr.2 y h1; omega
    | succ h =>
      simp only [List.getElem?_cons_succ] at hx
      obtain ⟨h1, h2⟩ := ih hr.2 hx
      refine ⟨fun y hy => ?_, fun y hy => h2 y (by simpa using hy)⟩
      rw [List.take_succ_cons] at hy
      rcases List.mem_cons.1 hy with h3 | h3
      · have := rises_gt hr.2 x (List.mem_of_getElem? hx); omega
      · exact h1 y h3
set_option maxHeartbeats 4000000 in
set_option maxRecDepth 100000 in
theorem bin_any (w : World) (A : Option Addr) (n c : Nat) (l : List Int) (hl : IntsIn w A n l) (p : Int) (hr : rises p l = true) (d : Int) (hn : n ≤ 1000000) :
    Calls Try.prog 41 #[.slice A n c, .int .i64 d] w (BinOut w n d l) := by
  have HL := Lib.hid hl
  have HLN := Lib.hid hl.len
  have HR := Lib.hid hr
  clear hl hr
  go_enter Try.func41, Try.ntmps41
  go_wp2
  go_loop [7, 8] (fun i j => ∃ a b : Nat, a ≤ b ∧ b ≤ n ∧ i = .int .i64 a ∧ j = .int .i64 b ∧ (∀ x ∈ l.take a, x < d) ∧ (∀ x ∈ l.drop b, d ≤ x)) (fun i j => (intOf j - intOf i).toNat)
  case atStart => exact ⟨0, n, by omega, by omega, rfl, rfl, by simp, by rw [← HLN.out]; simp⟩
  case round =>
    obtain ⟨a, b, hab, hbn, rfl, rfl, h1, h2⟩ := hrel
    have H1 := Lib.hid h1
    have H2 := Lib.hid h2
    clear h1 h2
    by_cases hlt : a < b
    · have hlt' : decide ((a : Int) < (b : Int)) = true := decide_eq_true (by omega)
      obtain ⟨h, hh⟩ : ∃ h : Nat, h = (a + b) / 2 := ⟨_, rfl⟩
      have hha : a ≤ h ∧ h < b := by omega
      have hhi : ((a : Int) + (b : Int)) / 2 = (h : Int) := by omega
      clear hh
      have p0 : (0 : Int) ≤ (h : Int) := by omega
      have p1 : (h : Int) < (n : Int) := by omega
      have hw1 : IntKind.i64.wrap ((h : Int) + 1) = (h : Int) + 1 := IntWalk.i64_in _ (by omega)
      obtain ⟨pa, x, rfl, hx, ex, hx1, hx2⟩ := HL.out.at h (by omega)
      have hln := HLN.out
      have HX := Lib.hid hx
      have hpart := up_at HR.out hx
      have HP := Lib.hid hpart
      clear hx hpart
      by_cases hxd : x < d
      · have d1 : decide (x < d) = true := decide_eq_true hxd
        have HXD := Lib.hid hxd
        clear hxd
        go_wp2
        go_round
        case rel => exact ⟨h + 1, b, by omega, hbn, by go_num, rfl, fun y hy => by have := HP.out.1 y hy; have := HXD.out; omega, H2.out⟩
        case measure => simp [intOf]; omega
      · have d1 : decide (x < d) = false := decide_eq_false hxd
        have HXD := Lib.hid hxd
        clear hxd
        go_wp2
        go_round
        case rel => exact ⟨a, h, by omega, by omega, rfl, rfl, H1.out, fun y hy => by have := HP.out.2 y hy; have := HXD.out; omega⟩
        case measure => simp [intOf]; omega
    · obtain rfl : a = b := by omega
      have hlz : ¬ ((a : Int) < (a : Int)) := by omega
      have hfin : fromL d l = l.drop a := by
        rw [fromL_filter HR.out]
        conv => lhs; rw [← List.take_append_drop a l]
        rw [List.filter_append, List.filter_eq_nil_iff.2, List.filter_eq_self.2, List.nil_append]
        · intro y hy; simpa using H2.out y hy
        · intro y hy; have := H1.out y hy; simp; omega
      have HFIN := Lib.hid hfin
      clear hfin
      rcases Nat.lt_or_ge a n with han | han
      · have d2 : decide ((a : Int) < (n : Int)) = true := decide_eq_true (by omega)
        have p0 : (0 : Int) ≤ (a : Int) := by omega
        have p1 : (a : Int) < (n : Int) := by omega
        obtain ⟨pa, x, rfl, hx, ex, hx1, hx2⟩ := HL.out.at a han
        clear hx
        by_cases hxd : x = d
        · have d3 : (x == d) = true := by simpa using hxd
          clear hxd
          go_wp2
          go_ret2
          exact ⟨rfl, a, true, by omega, rfl, HFIN.out⟩
        · have d3 : (x == d) = false := by simpa using hxd
          clear hxd
          go_wp2
          go_ret2
          exact ⟨rfl, a, false, by omega, rfl, HFIN.out⟩
      · have d2 : decide ((a : Int) < (n : Int)) = false := decide_eq_false (by omega)
        go_wp2
        go_ret2
        exact ⟨rfl, a, false, by omega, rfl, HFIN.out⟩
set_option maxHeartbeats 4000000 in
set_option maxRecDepth 100000 in
theorem rising_any (w : World) (A : Option Addr) (n c : Nat) (l : List Int) (hl : IntsIn w A n l) (hn : n ≤ 1000000) : Calls Try.prog 39 #[.slice A n c] w (NumsOut w (listI l)) := by
  obtain ⟨i0, hi, hz0, hz1, hz2⟩ := info_parts intInfo64
  have HL := Lib.hid hl
  have HLN := Lib.hid hl.len
  clear hl
  go_enter Try.func39, Try.ntmps39
  go_wp2
  go_loopw [3, 4, 9] (fun v x i wr => ∃ (k : Nat) (m : Int), k ≤ n ∧ i = .int .i64 k ∧ x = .int .i64 m ∧ m = (listUp l k).2 ∧ wr.ownsRow w.heap.size 2 1 v (listUp l k).1.length ((listUp l k).1.map i64V) ∧ Below w.heap.size w wr) (fun _ _ i _ => n - (intOf i).toNat)
  case atStart => exact ⟨0, -1, by omega, rfl, rfl, rfl, ⟨rfl, .inl ⟨rfl, rfl⟩⟩, Below.refl _ _⟩
  case round =>
    obtain ⟨k, m, hk, rfl, rfl, hm, hO, hB⟩ := hrel
    have HO := Lib.hid hO
    have HB := Lib.hid hB
    have HM := Lib.hid hm
    clear hO hB hm
    rcases Nat.lt_or_ge k n with hlt | hge
    · have hlt' : (k : Int) < (n : Int) := by omega
      have p0 : (0 : Int) ≤ (k : Int) := by omega
      have hw5 : IntKind.i64.wrap ((k : Int) + 1) = (k : Int) + 1 := IntWalk.i64_in _ (by omega)
      obtain ⟨pa, x, rfl, hx, ex, hx1, hx2⟩ := (HL.out.below HB.out).at k hlt
      have hgd : l.getD k 0 = x := by rw [List.getD_eq_getElem?_getD, hx]; rfl
      have hup : listUp l (k + 1) = if m < x then ((listUp l k).1 ++ [x], x) else listUp l k := by rw [listUp, hgd, ← HM.out]
      obtain ⟨M, hMM⟩ : ∃ M, M = (listUp l k).1 := ⟨_, rfl⟩
      have hMl : M.length ≤ 1000000 := by rw [hMM]; have := listUp_len l k; omega
      rw [← hMM] at HO hup
      by_cases hmx : m < x
      · have d1 : decide (m < x) = true := decide_eq_true hmx
        rw [if_pos hmx] at hup
        have HUP := Lib.hid hup
        obtain ⟨Av, cv, hv⟩ := own_slice HO.out
        subst hv
        have HCK := Lib.hid (int_stays HL.out HB.out hlt ex)
        clear hx hgd hup hMM hmx
        go_wp2_with (at_builtin; refine wpList_append_src _ rfl (.tmp 16) (.tmp 18) 26 rfl w.heap.size 2 i0 (.int .i64 0) 8 Try.underlying26 hi hz0 hz1 hz2 rfl _ M.length _ rfl (World.ownsRow.alloc HO.out _) _ 1 1 _ rfl (one_int_src _ 2 x) (i64V_one [x]) (by unfold maxLen; omega) (by omega) (by have := HB.out.size; simp; omega) ?_; intro v3 w3 hown hgrow _; have HO3 := Lib.hid hown; have HB3 := Lib.hid ((HB.out.alloc HB.out.size _).grown hgrow (by have := HB.out.size; simp; omega) (fun g hg => (HO.out.lt g hg).1)); have ex3 := HCK.out w3 HB3.out; clear hown hgrow)
        go_roundw
        case rel => exact ⟨k + 1, x, by omega, by go_num, rfl, by rw [HUP.out], by rw [HUP.out, List.length_append, List.map_append]; exact HO3.out, HB3.out⟩
        case measure => simp [intOf]; omega
      · have d1 : decide (m < x) = false := decide_eq_false hmx
        rw [if_neg hmx] at hup
        have HUP := Lib.hid hup
        have HMM := Lib.hid hMM
        clear hx hgd hup hMM hmx
        go_wp2
        go_roundw
        case rel => exact ⟨k + 1, m, by omega, by go_num, rfl, by rw [HUP.out]; exact HM.out, by rw [HUP.out, ← HMM.out]; exact HO.out, HB.out⟩
        case measure => simp [intOf]; omega
    · obtain rfl : k = n := by omega
      have hlz : ¬ ((k : Int) < (k : Int)) := by omega
      go_wp2
      go_ret
      refine ⟨_, rfl, ?_, HB.out⟩
      unfold listI
      rw [HLN.out]
      exact HO.out

/-- The function that moves in a list of one's own. -/
def ListMv (w : World) (F : Nat → Prop) (fv : Value) (M : List Int) : Prop :=
  ∃ (g : Nat) (A : Option Addr) (n c : Nat), fv = .func (.func 40) #[] #[at0 g] ∧ Blk w g 26 #[.slice A n c] ∧ IntsIn w A n M ∧ n ≤ c ∧ n ≤ 1000000 ∧ F g ∧ (∀ i, F i → i < w.heap.size) ∧ ∀ ad, A = some ad → 0 < n → F ad.block ∧ ad.block ≠ g
theorem ListMv.keep {w w' : World} {F : Nat → Prop} {fv : Value} {M : List Int} (h : ListMv w F fv M) (hk : ∀ b, F b → w'.heap[b]? = w.heap[b]?) (hs : w.heap.size ≤ w'.heap.size) : ListMv w' F fv M := by
  obtain ⟨g, A, n, c, h1, h2, h3, h4, h5, h6, h7, h8⟩ := h
  exact ⟨g, A, n, c, h1, (hk g h6).trans h2, ⟨h3.1, h3.2.1.keep fun ad e h0 => hk _ (h8 ad e h0).1, h3.2.2.1, fun ad e h0 => Nat.lt_of_lt_of_le (h3.2.2.2 ad e h0) hs⟩, h4, h5, h6, fun i hi => Nat.lt_of_lt_of_le (h7 i hi) hs, h8⟩
set_option maxHeartbeats 4000000 in
set_option maxRecDepth 100000 in
theorem list1_any {Q : MvP} (hQ : ∀ {w F fv M}, ListMv w F fv M → Q w F fv M) {w : World} {F : Nat → Prop} {fv : Value} {M : List Int} {g : Nat} {A : Option Addr} {n c : Nat} (hfv : fv = .func (.func 40) #[] #[at0 g]) (hb : Blk w g 26 #[.slice A n c]) (hl : IntsIn w A n M) (hc : n ≤ c) (hn : n ≤ 1000000) (hg : F g) (hlt : ∀ i, F i → i < w.heap.size) (hA : ∀ ad, A = some ad → 0 < n → F ad.block ∧ ad.block ≠ g) (hM : Up M) (d : Int) :
    Calls Try.prog 40 #[.int .i64 d, at0 g] w (MoveOut Q w F fv M d) := by
  have HBK := Lib.hid hb
  have HL := Lib.hid hl
  have HM := Lib.hid hM
  have HA := Lib.hid hA
  have HLT := Lib.hid hlt
  have hgl := hb.lt
  obtain ⟨w1, hw1⟩ : ∃ z, z = w.alloc (.cells #[.int .i64 0, .int .i64 0] 68) := ⟨_, rfl⟩
  have hb1 : Below w.heap.size w w1 := by rw [hw1]; exact (Below.refl _ w).alloc (Nat.le_refl _) _
  have hz1 : w1.heap.size = w.heap.size + 1 := by rw [hw1]; simp
  have hbk1 := hb.below hb1 hgl
  have hr1 : Blk w1 w.heap.size 68 #[.int .i64 0, .int .i64 0] := by rw [hw1]; exact Blk.new _ _ _
  have hl1 := hl.below hb1
  have y0 := hbk1.cell 0
  have x0 := hbk1.frozen 0
  simp only [List.getElem?_toArray, List.getElem?_cons_zero] at y0
  have HBK1 := Lib.hid hbk1
  have HR1 := Lib.hid hr1
  have HL1 := Lib.hid hl1
  have HB1 := Lib.hid hb1
  have HBIN := Lib.hid (bin_any w1 A n c M hl1 (-1) hM.up d hn)
  have HW1 := Lib.hid hw1
  have hs := fun (k : Nat) (hk : k ≤ n) w => i64s_from w A n c k hk
  have HS := Lib.hid hs
  clear hb hl hA hlt hM hb1 hbk1 hr1 hl1 hs hw1
  rw [HW1.out] at y0 x0
  unfold at0
  go_enter Try.func40, Try.ntmps40
  go_wp2_with fail
  rw [← HW1.out]
  refine HBIN.out.mono ?_
  rintro e w2 ⟨rfl, k, f, hkn, rfl, hfrom⟩
  have hs := HS.out k hkn
  rw [← HW1.out] at y0 x0
  obtain ⟨j, hj⟩ : ∃ j, j = n - k := ⟨_, rfl⟩
  obtain ⟨c', hc'⟩ : ∃ z, z = c - k := ⟨_, rfl⟩
  obtain ⟨A', hA'⟩ : ∃ z, z = cutAddr A k c := ⟨_, rfl⟩
  have hcut := ints_cut HL1.out hc hkn
  rw [← hj, ← hc', ← hA'] at hs
  rw [← hj, ← hA', ← hfrom] at hcut
  have hjn : j ≤ n := by omega
  have hjc : j ≤ c' := by omega
  have hbl : ∀ ad, A' = some ad → 0 < j → F ad.block ∧ ad.block ≠ g := fun ad e h0 => by
    rw [hA'] at e
    unfold cutAddr at e
    split at e
    · exact HA.out ad e (by omega)
    · cases hA : A with
      | none => rw [hA] at e; cases e
      | some a =>
        rw [hA] at e
        simp only [Option.map_some, Option.some.injEq] at e
        subst e
        have hb : (a.add k).block = a.block := by unfold Addr.add; split <;> rfl
        rw [hb]
        exact HA.out a hA (by omega)
  have HBL := Lib.hid hbl
  have HCUT := Lib.hid hcut
  obtain ⟨w3, hw3⟩ : ∃ z, z = w2.setCell ⟨g, 0, none⟩ (.slice A' j c') := ⟨_, rfl⟩
  have hbk3 : Blk w3 g 26 #[.slice A' j c'] := by rw [hw3]; simpa using HBK1.out.set_ 0 (.slice A' j c')
  have hr3 : Blk w3 w.heap.size 68 #[.int .i64 0, .int .i64 0] := by rw [hw3]; exact HR1.out.far (by simp only; omega) _
  have hk3 : Kept F w w3 := by rw [hw3]; exact (Kept.below HB1.out).setCell (.inl hg) _
  have hz3 : w3.heap.size = w.heap.size + 1 := by rw [hw3, size_setCell', hz1]
  have hcut3 : IntsIn w3 A' j (fromL d M) := ⟨hcut.1, hcut.2.1.keep fun ad e h0 => by rw [hw3]; exact heap_setCell_other _ _ _ (hbl ad e h0).2, hcut.2.2.1, fun ad e h0 => by have := hcut.2.2.2 ad e h0; omega⟩
  have HK3 := Lib.hid hk3
  have HCUT3 := Lib.hid hcut3
  have HBK3 := Lib.hid hbk3
  have HR3 := Lib.hid hr3
  have HW3 := Lib.hid hw3
  have hlv : ∀ w' : World, (∀ i, F i → w'.heap[i]? = w3.heap[i]?) → w3.heap.size ≤ w'.heap.size → Q w' F fv (fromL d M) := fun w' h1 h2 => hQ ⟨g, A', j, c', hfv, (h1 g hg).trans hbk3, ⟨hcut3.1, hcut3.2.1.keep fun ad e h0 => h1 _ (hbl ad e h0).1, hcut3.2.2.1, fun ad e h0 => Nat.lt_of_lt_of_le (hcut3.2.2.2 ad e h0) h2⟩, hjc, by omega, hg, fun i hi => by have := HLT.out i hi; omega, hbl⟩
  have HLV := Lib.hid hlv
  have HLEN := Lib.hid hcut.len
  clear hfrom hj hc' hA' hcut hjn hjc hbl hbk3 hr3 hk3 hcut3 hw3 hlv
  rcases Nat.eq_zero_or_pos j with hj0 | hj0
  · subst hj0
    have HMT : Hid (∀ x ∈ M, x < d) := Lib.hid fun x hx => by
      rcases Int.lt_or_le x d with h1 | h1
      · exact h1
      · have h2 := (HM.out.mem_from d x).2 ⟨hx, h1⟩
        rw [List.eq_nil_of_length_eq_zero HLEN.out] at h2
        cases h2
    have r0 := HR3.out.cell 0
    have r1 := HR3.out.cell 1
    have q0 := HR3.out.frozen 0
    have q1 := HR3.out.frozen 1
    simp only [List.getElem?_toArray, List.getElem?_cons_zero, List.getElem?_cons_succ] at r0 r1
    rw [HW3.out] at r0 r1 q0 q1
    go_wp2
    rw [← HW3.out]
    refine bodyPost_ret (results_cell_row rfl _ _ w.heap.size 68 #[.int .i64 0, .int .i64 0] (0, 0) _ rfl ?_ Try.underlying68 rfl runCells) rfl ?_
    · have := (HR3.out.set_ 0 (.int .i64 0)).set_ 1 (.int .i64 0)
      unfold Blk at this
      simpa using this
    · exact ⟨0, 0, rfl, (HK3.out.setCell (.inr (by simp only; omega)) _).setCell (.inr (by simp only; omega)) _, .inl ⟨rfl, HMT.out⟩⟩
  · have d1 : ((j : Int) == 0) = false := beq_eq_false_iff_ne.2 (by omega)
    have p1 : (0 : Int) < (j : Int) := by omega
    obtain ⟨pa, x, rfl, hx, ex, hx1, hx2⟩ := HCUT3.out.at 0 hj0
    have ex0 : w3.cell? pa = some (.int .i64 x) := by simpa [Addr.add] using ex
    have hpa0 : pa.add 0 = pa := by simp [Addr.add]
    have hin : x ∈ fromL d M := List.mem_of_getElem? hx
    have hfr : ∀ y ∈ fromL d M, x ≤ y := fun y hy => (up_at (HM.out.from d).up hx).2 y (by simpa using hy)
    have HRUN : Hid (RunOf (fromL d M) x 1) := Lib.hid ⟨by omega, (HM.out.from d).pos x hin, by omega, by omega, hfr, fun y h1 h2 => by
      obtain rfl : y = x := by omega
      exact hin⟩
    have HDX : Hid (d ≤ x) := Lib.hid ((HM.out.mem_from d x).1 hin).2
    have r0 := HR3.out.cell 0
    have r1 := HR3.out.cell 1
    have q0 := HR3.out.frozen 0
    have q1 := HR3.out.frozen 1
    simp only [List.getElem?_toArray, List.getElem?_cons_zero, List.getElem?_cons_succ] at r0 r1
    rw [HW3.out] at r0 r1 q0 q1 ex ex0
    clear hx hin hfr
    go_wp2
    rw [← HW3.out]
    refine bodyPost_ret (results_cell_row rfl _ _ w.heap.size 68 #[.int .i64 x, .int .i64 1] (0, 0) _ rfl ?_ Try.underlying68 rfl runCells) rfl ?_
    · have := (HR3.out.set_ 0 (.int .i64 x)).set_ 1 (.int .i64 1)
      unfold Blk at this
      simpa using this
    · refine ⟨x, 1, rfl, (HK3.out.setCell (.inr (by simp only; omega)) _).setCell (.inr (by simp only; omega)) _, .inr ⟨HRUN.out, F, fromL d M, HLV.out _ (fun i hi => ?_) ?_, HM.out.from d, fun i hi => .inl hi, fun y hy => ?_⟩⟩
      · have := HLT.out i hi
        rw [heap_setCell_other _ _ _ (by simp only; omega), heap_setCell_other _ _ _ (by simp only; omega)]
      · rw [size_setCell', size_setCell']; exact Nat.le_refl _
      · rw [HM.out.mem_from]
        exact ⟨And.left, fun h => ⟨h, by have := HDX.out; omega⟩⟩
/-- The run's own function, of all below n. -/
def AllMv (w : World) (F : Nat → Prop) (fv : Value) (M : List Int) : Prop :=
  ∃ n : Int, fv = .func (.func 34) #[.agg #[.int .i64 0, .int .i64 n]] #[] ∧ 0 ≤ n ∧ n ≤ 9223372036854775807 ∧ (∀ x, x ∈ M ↔ 0 ≤ x ∧ x < n) ∧ ∀ i, F i → i < w.heap.size
theorem all1_any {Q : MvP} (hQ : ∀ {w F fv M}, AllMv w F fv M → Q w F fv M) {w : World} {F : Nat → Prop} {fv : Value} {M : List Int} {n : Int} (hfv : fv = .func (.func 34) #[.agg #[.int .i64 0, .int .i64 n]] #[]) (h0 : 0 ≤ n) (hn : n ≤ 9223372036854775807) (hall : ∀ x, x ∈ M ↔ 0 ≤ x ∧ x < n) (hlt : ∀ i, F i → i < w.heap.size) (hM : Up M) (d : Int) (hd : fits64 d) :
    Calls Try.prog 34 #[.agg #[.int .i64 0, .int .i64 n], .int .i64 d] w (MoveOut Q w F fv M d) := by
  refine (seFrom_any w 0 n d hd (by omega) h0 (by omega) (by omega) hn).mono ?_
  rintro e w' ⟨rfl, hb⟩
  refine ⟨_, _, rfl, Kept.below hb, ?_⟩
  unfold fromR
  by_cases hk : n ≤ max d 0 - 0
  · rw [if_pos hk]
    exact .inl ⟨rfl, fun x hx => by have := (hall x).1 hx; omega⟩
  · rw [if_neg hk]
    refine .inr ⟨⟨?_, ?_, ?_, ?_, fun x hx => ?_, fun x h1 h2 => ?_⟩, F, M, hQ ⟨n, hfv, h0, hn, hall, fun i hi => Nat.lt_of_lt_of_le (hlt i hi) hb.size⟩, hM, fun i hi => .inl hi, fun x _ => Iff.rfl⟩
    · simp only; omega
    · simp only; omega
    · simp only; omega
    · simp only; omega
    · obtain ⟨h1, h2⟩ := (hM.mem_from d x).1 hx
      have := (hall x).1 h1
      simp only
      omega
    · simp only at h1 h2
      exact (hM.mem_from d x).2 ⟨(hall x).2 (by omega), by omega⟩
theorem up_list {w : World} {A : Option Addr} {n : Nat} {l : List Int} (h : IntsIn w A n l) : Up (listI l) := by
  refine ⟨list_rise l, fun x hx => ?_⟩
  have : ∀ k, k ≤ l.length → ∀ x ∈ (listUp l k).1, x ∈ l := by
    intro k
    induction k with
    | zero => intro _ x hx; cases hx
    | succ k ih =>
      intro hk x hx
      simp only [listUp] at hx
      split at hx
      · rcases List.mem_append.1 hx with h1 | h1
        · exact ih (by omega) x h1
        · rw [List.mem_singleton.1 h1, List.getD_eq_getElem?_getD, List.getElem?_eq_getElem (by omega)]
          exact List.getElem_mem _
      · exact ih (by omega) x hx
  exact (h.2.2.1 x (this l.length (Nat.le_refl _) x hx)).2
set_option maxHeartbeats 4000000 in
set_option maxRecDepth 100000 in
theorem seList_any {Q : MvP} (hQ : MovesOk Q) (hL : ∀ {w F fv M}, ListMv w F fv M → Q w F fv M) (w : World) (A : Option Addr) (n c : Nat) (l : List Int) (hl : IntsIn w A n l) (hn : n ≤ 1000000) : Calls Try.prog 21 #[.slice A n c] w (SetMade Q w (fun _ => False) (listI l)) := by
  have HR := Lib.hid (rising_any w A n c l hl hn)
  have HU := Lib.hid (up_list hl)
  have HN := Lib.hid (few_list hl)
  clear hl
  go_enter Try.func21, Try.ntmps21
  go_wp2_with fail
  refine HR.out.mono ?_
  rintro e w1 ⟨v, rfl, ho, hb⟩
  obtain ⟨V, c1, rfl, hc⟩ := own_cap ho
  obtain ⟨w2, hw2⟩ : ∃ z, z = w1.alloc (.cells #[.slice V (listI l).length c1] 26) := ⟨_, rfl⟩
  have hb2 : Below w1.heap.size w1 w2 := by rw [hw2]; exact (Below.refl _ w1).alloc (Nat.le_refl _) _
  have hbl : Blk w2 w1.heap.size 26 #[.slice V (listI l).length c1] := by rw [hw2]; exact Blk.new _ _ _
  have hz2 : w2.heap.size = w1.heap.size + 1 := by rw [hw2]; simp
  have hin : IntsIn w2 V (listI l).length (listI l) := (IntsIn.own ho (by have := HN.out; unfold maxLen; omega) (fun x hx => ⟨by have := HU.out.pos x hx; omega, HU.out.most x hx⟩)).below hb2
  have hmv : ListMv w2 (fun i => w.heap.size ≤ i ∧ i ≤ w1.heap.size) (.func (.func 40) #[] #[at0 w1.heap.size]) (listI l) := ⟨w1.heap.size, V, _, c1, rfl, hbl, hin, hc, by have := HN.out; omega, ⟨hb.size, Nat.le_refl _⟩, fun i hi => by omega, fun ad e h0 => by
    have h1 := ho.lt ad.block (by rw [e]; rfl)
    exact ⟨⟨h1.1, by omega⟩, by omega⟩⟩
  have HBG := Lib.hid (seBegin_any hQ (hL hmv) HU.out)
  have HB := Lib.hid (below_then hb hb2 hb.size)
  have HW2 := Lib.hid hw2
  unfold at0 at HBG
  clear ho hb hb2 hbl hin hmv hw2
  go_wp2_with fail
  rw [← HW2.out]
  refine HBG.out.mono ?_
  rintro e w3 ⟨b, F', rfl, h1, h2, h3⟩
  have HP := Lib.hid (And.intro h1 (And.intro h2 h3))
  clear h1 h2 h3
  go_wp2
  go_ret
  obtain ⟨h1, h2, h3⟩ := HP.out
  have := HB.out.size
  exact ⟨b, F', rfl, h1, (Kept.below HB.out).trans h2 (fun i hi h => by omega), fun i hi => .inr (by rcases h3 i hi with h | h <;> omega)⟩
set_option maxHeartbeats 4000000 in
set_option maxRecDepth 100000 in
theorem seAll_any {Q : MvP} (hQ : MovesOk Q) (hL : ∀ {w F fv M}, AllMv w F fv M → Q w F fv M) (w : World) (n : Int) (hn : n ≤ 60) (h0 : -9223372036854775808 ≤ n) : Calls Try.prog 30 #[.int .i64 n] w (SetMade Q w (fun _ => False) (allI n.toNat)) := by
  obtain ⟨m, hm⟩ : ∃ m : Int, m = max n 0 := ⟨_, rfl⟩
  have hup : Up (allI n.toNat) ∧ ∀ x, x ∈ allI n.toNat ↔ 0 ≤ x ∧ x < m := by
    have hmem : ∀ (k : Nat) (x : Int), x ∈ allI k ↔ 0 ≤ x ∧ x < (k : Int) := fun k x => by
      unfold allI
      rw [List.mem_map]
      constructor
      · rintro ⟨i, hi, rfl⟩
        have := List.mem_range.1 hi
        omega
      · rintro ⟨h1, h2⟩
        exact ⟨x.toNat, List.mem_range.2 (by omega), by omega⟩
    have hrise : ∀ k : Nat, rises (-1) (allI k) = true ∧ (allI k).getLastD (-1) < (k : Int) := fun k => by
      induction k with
      | zero => exact ⟨rfl, by simp [allI]⟩
      | succ k ih =>
        have e : allI (k + 1) = allI k ++ [(k : Int)] := by simp [allI, List.range_succ]
        rw [e]
        exact ⟨rises_snoc' ih.1 ih.2, by simp; omega⟩
    exact ⟨⟨(hrise _).1, fun x hx => by have := (hmem _ x).1 hx; omega⟩, fun x => by rw [hmem]; omega⟩
  have HB := Lib.hid (seBegin_any hQ (hL (w := w) (F := fun _ => False) (fv := .func (.func 34) #[.agg #[.int .i64 0, .int .i64 m]] #[]) ⟨m, rfl, by omega, by omega, hup.2, fun i hi => hi.elim⟩) hup.1)
  obtain ⟨L, hL⟩ : ∃ z, z = allI n.toNat := ⟨_, rfl⟩
  rw [← hL] at HB ⊢
  clear hup hL
  by_cases hlt : n < 0
  · obtain rfl : m = 0 := by omega
    clear hm
    go_enter Try.func30, Try.ntmps30
    go_wp2_with fail
    refine HB.out.mono ?_
    rintro e w3 ⟨b, F', rfl, h1, h2, h3⟩
    have HP := Lib.hid (And.intro h1 (And.intro h2 h3))
    clear h1 h2 h3
    go_wp2
    go_ret
    exact ⟨b, F', rfl, HP.out.1, HP.out.2.1, HP.out.2.2⟩
  · obtain rfl : m = n := by omega
    clear hm
    go_enter Try.func30, Try.ntmps30
    go_wp2_with fail
    refine HB.out.mono ?_
    rintro e w3 ⟨b, F', rfl, h1, h2, h3⟩
    have HP := Lib.hid (And.intro h1 (And.intro h2 h3))
    clear h1 h2 h3
    go_wp2
    go_ret
    exact ⟨b, F', rfl, HP.out.1, HP.out.2.1, HP.out.2.2⟩
end Go.Proofs.Ytkligdaademakaa
