/- The law PostOrder. Printed by mk/order.py. -/
import Derived.Test.YtmcoooepoikgjaaPLaws3
import Derived.Test.YtmcoooepoikgjaaPMath6
import Derived.Test.YtmcoooepoikgjaaKPostsR
import Derived.Deep.RegionHeld3
import Derived.Lib.SmallJoins
namespace Go.Proofs.Ytmcoooepoikgjaa
open Go.RowKit Go.Maps Go.WideMaps
set_option linter.unusedSimpArgs false

set_option maxRecDepth 100000 in
theorem posts_from (w : World) (ad : Addr) (n c p : Nat) (h : p ≤ n) (hc : p < c) : (Instr.slice 22 (.slice (some ad) n c) (some (.int .i64 p)) none none).run Try.prog w = .ok (.slice (some (ad.add (p * 2))) (n - p) (c - p)) w := by
  obtain ⟨i0, hi, hz0, hz1, hz2⟩ := info_parts postInfo
  rw [run_slice_l (P := Try.prog) (w := w) 22 (some ad) n c Try.underlying22 .i64 p (by omega) (by omega)]
  have he : Try.prog.elem 22 = 36 := by kernel_rfl
  rw [he]
  have hs : (sizeOf 36).run Try.prog w = Result.ok i0.size w := by
    rw [run_sizeOf w hi]
    unfold Program.cellsOf
    rw [hi]
    rfl
  rw [hs, hz1]
  have hne : ¬ c = p := by omega
  simp [Result.andThen, sliced, hne]
theorem add_nil (ad : Addr) : ad.add 0 = ad := by simp [Addr.add]
theorem RowsOf.src0 {w : World} {ad : Addr} {l : List Pst} {R : List (Int × Value)} (h : RowsOf w (some ad) l R) (m : Nat) : ∀ (j : Nat) (u : Value), ((R.take m).flatMap docCells)[j]? = some u → w.cell? (ad.add j) = some u := by
  have h1 := h.src 0 m
  rw [Nat.zero_mul, add_nil, List.drop_zero] at h1
  exact h1

theorem zero_plus (g j : Nat) : (⟨g, 0, none⟩ : Addr).add j = ⟨g, j, none⟩ := by
  unfold Addr.add
  split
  · rename_i h; rw [h]
  · simp
theorem row_some {w : World} {base n : Nat} {v : Value} {xs : List Value} (h : w.ownsRow base 36 2 v n xs) (hn : 0 < n) : ∃ g c, v = .slice (some ⟨g, 0, none⟩) n c ∧ base ≤ g ∧ ∃ cur, Blk w g 36 cur := by
  rcases h.2 with ⟨_, h2⟩ | ⟨g, cap, cur, h1, h2, h3, _⟩
  · omega
  · exact ⟨g, cap, h1, h2, cur, h3⟩
theorem none_made {w w' : World} {n k : Nat} {v : Value} {R : List (Int × Value)} {d : Int} {p2 : Value} (ho : w'.ownsRow w.heap.size 36 2 v n (R.flatMap docCells)) (hn : 0 < n) (hg : w.grownBy w' (Value.ownBlock (.slice none 0 0))) (hp : R[k]? = some (d, p2)) :
    ∃ g c, v = .slice (some ⟨g, 0, none⟩) n c ∧ w.heap.size ≤ g ∧ Below w.heap.size w w' ∧ w'.cell? ⟨g, k * 2 + 1, none⟩ = some p2 ∧ w'.frozen? ⟨g, k * 2 + 1, none⟩ = false := by
  obtain ⟨g, c, rfl, h1, cur, h2⟩ := row_some ho hn
  have h3 := ho.cells (g := g) rfl (k * 2 + 1) p2 (doc_at R k 1 (d, p2) p2 hp rfl)
  rw [zero_plus] at h3
  exact ⟨g, c, rfl, h1, (Below.refl w.heap.size w).grown hg (Nat.le_refl _) (fun g e => by cases e), h3, h2.frozen _⟩
theorem RowsOf.twice {w : World} {A : Option Addr} {l : List Pst} {R : List (Int × Value)} (h : RowsOf w A l R) {k : Nat} (hk : k < l.length) : ∀ (i : Nat) (p : Int × Value) (x : Pst), (R.take (k + 1) ++ R.drop k)[i]? = some p → (l.take (k + 1) ++ l.drop k)[i]? = some x → RowOf w x p := by
  intro i p x e1 e2
  have hl := h.len
  rcases Nat.lt_or_ge i (k + 1) with hi | hi
  · rw [List.getElem?_append_left (by rw [List.length_take]; omega), List.getElem?_take, if_pos hi] at e1 e2
    exact h.row i p x e1 e2
  · rw [List.getElem?_append_right (by rw [List.length_take]; omega), List.length_take, List.getElem?_drop] at e1 e2
    rw [Nat.min_eq_left (by omega)] at e1 e2
    exact h.row _ p x e1 e2
theorem RowsOf.late {w : World} {A : Option Addr} {l : List Pst} {R : List (Int × Value)} (h : RowsOf w A l R) {k : Nat} {p0 : Int × Value} {x0 : Pst} (h1 : R[k]? = some p0) (h2 : l[k]? = some x0) : ∀ (i : Nat) (p : Int × Value) (x : Pst), ([p0] ++ R.take k)[i]? = some p → ([x0] ++ l.take k)[i]? = some x → RowOf w x p := by
  intro i p x e1 e2
  match i with
  | 0 =>
    simp at e1 e2
    subst e1 e2
    exact h.row k _ _ h1 h2
  | i + 1 =>
    simp only [List.cons_append, List.nil_append, List.getElem?_cons_succ, List.getElem?_take] at e1 e2
    split at e1
    · rename_i hik
      rw [if_pos hik] at e2
      exact h.row i p x e1 e2
    · cases e1

set_option maxHeartbeats 16000000 in
set_option maxRecDepth 100000 in
theorem postOrder_any (hK : PostOk) (W : World) (A : Option Addr) (n c : Nat) (l : List Pst) (hl : PostsSz W A n l) (hc : n ≤ c) (cut : Nat) (hcut : cut < 65536) :
    Calls Try.prog 5 #[.slice A n c, .int .u16 cut] W fun e w' => e = .returned (.bool true) ∧ Below W.heap.size W w' := by
  obtain ⟨i0, hi, hz0, hz1, hz2⟩ := info_parts postInfo
  have HK := Lib.hid hK
  have HH := Lib.hid (postHead_any hK W)
  have HL := Lib.hid hl
  have hll := hl.1.len
  have HLN := Lib.hid hll
  clear hl hK hll
  go_enter Try.func5, Try.ntmps5
  go_wp2_with fail
  refine HH.out.mono ?_
  rintro e w1 ⟨rfl, hb1⟩
  have HB1 := Lib.hid hb1
  have HG := Lib.hid (postGreat_any w1 A n c l (HL.out.1.below hb1) HL.out.2.2 HL.out.2.1)
  clear hb1
  go_wp2_with fail
  refine HG.out.mono ?_
  rintro e w2 ⟨r, rfl, hw2, hr⟩
  rw [hw2]
  clear hw2
  cases r with
  | true =>
    clear hr
    go_wp2
    go_ret
    exact ⟨rfl, HB1.out⟩
  | false =>
    obtain ⟨hn2, hx2⟩ := hr rfl
    have HX2 := Lib.hid (fun x hx => Nat.le_trans (Nat.le_of_lt (hx2 x hx)) (by omega) : ∀ x ∈ l, x.2.length ≤ 1000000)
    obtain ⟨R, hR⟩ : ∃ R, checkP l = R := ⟨_, rfl⟩
    have HR := Lib.hid hR
    have HC := Lib.hid (put_is HK.out (HL.out.1.below HB1.out) hc (by omega) HX2.out rfl hR)
    have hn4 : n < 20000 := by omega
    clear hr hx2 hR hn2
    go_wp2_with fail
    refine HC.out.mono ?_
    rintro e w3 ⟨A3, c3, rfl, -, -, -, hb3⟩
    have HB3 := Lib.hid (below_then HB1.out hb3 HB1.out.size)
    clear hb3 HC
    by_cases h0 : R = 0 ∧ 0 < n
    · obtain ⟨h0, hn0⟩ := h0
      subst h0
      have HV := Lib.hid ((check_ok (fit_of HL.out.1)).1 HR.out)
      have e0 : ((n : Int) == 0) = false := beq_eq_false_iff_ne.2 (by omega)
      have hcv : IntKind.i64.wrap (cut : Int) = (cut : Int) := IntWalk.i64_in _ (by omega)
      obtain ⟨k, hk⟩ : ∃ k, k = cut % n := ⟨_, rfl⟩
      have hkn : k < n := by rw [hk]; exact Nat.mod_lt _ hn0
      have hkz : (cut : Int) % (n : Int) = (k : Int) := by rw [hk]; simp
      obtain ⟨ad, rfl⟩ : ∃ ad, A = some ad := by
        cases A with
        | none => have := HL.out.1.nil rfl; omega
        | some ad => exact ⟨ad, rfl⟩
      have hw1 : IntKind.i64.wrap ((k : Int) + 1) = (k : Int) + 1 := IntWalk.i64_in _ (by omega)
      have hsl1 := fun w => posts_to w (some ad) n c k (by omega)
      have hck := check_take (fit_of HL.out.1) HR.out k
      have HC3 := Lib.hid (put_is HK.out ((HL.out.1.upto k (by omega)).below HB3.out) (by omega : k ≤ c) (by omega) (fun x hx => HX2.out x (List.mem_of_mem_take hx)) rfl hck)
      obtain ⟨RR, hRR⟩ := HL.out.1.rows
      have HRW := Lib.hid hRR
      clear hk hck hRR
      go_wp2_with fail
      refine HC3.out.mono ?_
      rintro e w4 ⟨A4, c4, rfl, -, -, -, hb4⟩
      have HB4 := Lib.hid (below_then HB3.out hb4 HB3.out.size)
      have HRO := Lib.hid (HRW.out.below HB4.out)
      clear hb4 HC3
      have hsl2 : ∀ w, (Instr.slice 22 (.slice (some ad) n c) none (some (.int .i64 ((k : Int) + 1))) none).run Try.prog w = .ok (.slice (some ad) (k + 1) c) w := fun w => by
        have := posts_to w (some ad) n c (k + 1) (by omega)
        rw [show ((k + 1 : Nat) : Int) = (k : Int) + 1 by push_cast; rfl] at this
        exact this
      have hsl3 := fun w => posts_from w ad n c k (Nat.le_of_lt hkn) (by omega)
      have hrl : RR.length = n := by rw [HRO.out.len]; exact HLN.out
      have HRL := Lib.hid hrl
      have HTL : Hid (∀ m, m ≤ n → ((RR.take m).flatMap docCells).length = m * 2) := Lib.hid (fun m hm => by rw [doc_len, List.length_take, hrl, Nat.min_eq_left hm])
      have HDL : Hid ((((RR.drop k).take (n - k)).flatMap docCells).length = (n - k) * 2) := Lib.hid (by rw [doc_len, List.length_take, List.length_drop, hrl, Nat.min_self])
      have hone := HRO.out.one
      have HONE : Hid (∀ m, ∀ u ∈ (RR.take m).flatMap docCells, u.oneCell' = true) := Lib.hid (fun m u hu => by
        obtain ⟨p, hp, hup⟩ := List.mem_flatMap.1 hu
        exact hone u (List.mem_flatMap.2 ⟨p, List.mem_of_mem_take hp, hup⟩))
      have HONED : Hid (∀ u ∈ ((RR.drop k).take (n - k)).flatMap docCells, u.oneCell' = true) := Lib.hid (fun u hu => by
        obtain ⟨p, hp, hup⟩ := List.mem_flatMap.1 hu
        exact hone u (List.mem_flatMap.2 ⟨p, List.mem_of_mem_drop (List.mem_of_mem_take hp), hup⟩))
      have HTW : Hid (RR.take (k + 1) ++ (RR.drop k).take (n - k) = RR.take (k + 1) ++ RR.drop k) := Lib.hid (by have e : (RR.drop k).take (n - k) = RR.drop k := List.take_of_length_le (by rw [List.length_drop, hrl]; exact Nat.le_refl _); rw [e])
      clear hrl hone hsl1
      go_wp2_with fail
      refine wp_region_held_drew (S := fun _ => True) (by kernel_rfl) trivial (fun hHeld => ?_)
      obtain ⟨u0, hu0⟩ : ∃ z, z = w4.drew := ⟨_, rfl⟩
      rw [← hu0]
      have HBU : Hid (Below w4.heap.size w4 u0) := Lib.hid (by rw [hu0]; exact (Below.refl _ w4).drew)
      have hTrue : True := trivial
      clear hu0
      refine wpAnyH_take (i := 0) (oi := ?oit10) (v := ?vt10) ?hit10 (by kernel_rfl) (by kernel_rfl) (by kernel_rfl) ?hQt10 (Or.inl ⟨?hwt10, ?hyt10⟩) (by assumption) ?restt10
      case hit10 => (first | (simp only [List.getElem?_toArray, List.getElem?_cons_zero, List.getElem?_cons_succ]; rfl) | rfl)
      case hQt10 => exact fun _ _ _ h => h
      case hwt10 => rfl
      case hyt10 => ((intro w hSw; go_simp); first | done | with_reducible rfl)
      try simp only [Act.put, List.setIfInBounds_toArray, List.set_cons_zero, List.set_cons_succ]
      refine wpAnyH_take (i := 1) (oi := ?oit21) (v := ?vt21) ?hit21 (by kernel_rfl) (by kernel_rfl) (by kernel_rfl) ?hQt21 (Or.inl ⟨?hwt21, ?hyt21⟩) (by assumption) ?restt21
      case hit21 => (first | (simp only [List.getElem?_toArray, List.getElem?_cons_zero, List.getElem?_cons_succ]; rfl) | rfl)
      case hQt21 => exact fun _ _ _ h => h
      case hwt21 => rfl
      case hyt21 => ((intro w hSw; go_simp); first | done | with_reducible rfl)
      try simp only [Act.put, List.setIfInBounds_toArray, List.set_cons_zero, List.set_cons_succ]
      refine wpAnyH_take (i := 2) (oi := ?oit32) (v := ?vt32) ?hit32 (by kernel_rfl) (by kernel_rfl) (by kernel_rfl) ?hQt32 (Or.inl ⟨?hwt32, ?hyt32⟩) (by assumption) ?restt32
      case hit32 => (first | (simp only [List.getElem?_toArray, List.getElem?_cons_zero, List.getElem?_cons_succ]; rfl) | rfl)
      case hQt32 => exact fun _ _ _ h => h
      case hwt32 => rfl
      case hyt32 => ((intro w hSw; go_simp); first | done | with_reducible rfl)
      try simp only [Act.put, List.setIfInBounds_toArray, List.set_cons_zero, List.set_cons_succ]
      refine wpAnyH_take (i := 6) (oi := ?oit46) (v := ?vt46) ?hit46 (by kernel_rfl) (by kernel_rfl) (by kernel_rfl) ?hQt46 (Or.inl ⟨?hwt46, ?hyt46⟩) (by assumption) ?restt46
      case hit46 => (first | (simp only [List.getElem?_toArray, List.getElem?_cons_zero, List.getElem?_cons_succ]; rfl) | rfl)
      case hQt46 => exact fun _ _ _ h => h
      case hwt46 => rfl
      case hyt46 => ((intro w hSw; go_simp); first | done | with_reducible rfl)
      try simp only [Act.put, List.setIfInBounds_toArray, List.set_cons_zero, List.set_cons_succ]
      refine wpAnyH_take (i := 7) (oi := ?oit57) (v := ?vt57) ?hit57 (by kernel_rfl) (by kernel_rfl) (by kernel_rfl) ?hQt57 (Or.inl ⟨?hwt57, ?hyt57⟩) (by assumption) ?restt57
      case hit57 => (first | (simp only [List.getElem?_toArray, List.getElem?_cons_zero, List.getElem?_cons_succ]; rfl) | rfl)
      case hQt57 => exact fun _ _ _ h => h
      case hwt57 => rfl
      case hyt57 => ((intro w hSw; go_simp); first | done | with_reducible rfl)
      try simp only [Act.put, List.setIfInBounds_toArray, List.set_cons_zero, List.set_cons_succ]
      refine wpAnyH_take (i := 3) (oi := ?oit63) (v := ?vt63) ?hit63 (by kernel_rfl) (by kernel_rfl) (by kernel_rfl) ?hQt63 (Or.inl ⟨?hwt63, ?hyt63⟩) (by assumption) ?restt63
      case hit63 => (first | (simp only [List.getElem?_toArray, List.getElem?_cons_zero, List.getElem?_cons_succ]; rfl) | rfl)
      case hQt63 => exact fun _ _ _ h => h
      case hwt63 => rfl
      case hyt63 => ((intro w hSw; go_simp); first | done | with_reducible rfl)
      try simp only [Act.put, List.setIfInBounds_toArray, List.set_cons_zero, List.set_cons_succ]
      refine wpAnyH_take (i := 8) (oi := ?oit78) (v := ?vt78) ?hit78 (by kernel_rfl) (by kernel_rfl) (by kernel_rfl) ?hQt78 (Or.inl ⟨?hwt78, ?hyt78⟩) (by assumption) ?restt78
      case hit78 => (first | (simp only [List.getElem?_toArray, List.getElem?_cons_zero, List.getElem?_cons_succ]; rfl) | rfl)
      case hQt78 => exact fun _ _ _ h => h
      case hwt78 => rfl
      case hyt78 => ((intro w hSw; go_simp); first | done | with_reducible rfl)
      try simp only [Act.put, List.setIfInBounds_toArray, List.set_cons_zero, List.set_cons_succ]
      refine wpAnyH_take (i := 4) (oi := ?oit84) (v := ?vt84) ?hit84 (by kernel_rfl) (by kernel_rfl) (by kernel_rfl) ?hQt84 (Or.inl ⟨?hwt84, ?hyt84⟩) (by assumption) ?restt84
      case hit84 => (first | (simp only [List.getElem?_toArray, List.getElem?_cons_zero, List.getElem?_cons_succ]; rfl) | rfl)
      case hQt84 => exact fun _ _ _ h => h
      case hwt84 => rfl
      case hyt84 => ((intro w hSw; go_simp); first | done | with_reducible rfl)
      try simp only [Act.put, List.setIfInBounds_toArray, List.set_cons_zero, List.set_cons_succ]
      refine wpAnyH_ready (rs := [5]) (by kernel_rfl) (by simp) ?_
      refine AllReadyH.cons (o := ?ot9) ?ht9 ?st9 AllReadyH.nil
      case ht9 => (simp only [List.getElem?_toArray, List.getElem?_cons_zero, List.getElem?_cons_succ]; rfl)
      case st9 =>
        intro K hK
        refine step_append_recK _ rfl (.tmp 49) (.tmp 53) 22 rfl w4.heap.size 36 i0 _ 2 32 Try.underlying22 hi hz0 hz1 hz2 rfl (by decide) (.slice none 0 0) 0 [] rfl ⟨rfl, .inl ⟨rfl, rfl⟩⟩ ad (k + 1) c ((RR.take (k + 1)).flatMap docCells) rfl (HTL.out (k + 1) (by omega)) ((HRO.out.below HBU.out).src0 (k + 1)) (HONE.out (k + 1)) (by unfold maxLen; omega) (by omega) HBU.out.size ?_
        intro va ua hwa hga _
        rw [Nat.zero_add, List.nil_append] at hwa
        have HWA := Lib.hid hwa
        have HBA := Lib.hid (HBU.out.grown hga HBU.out.size (fun g e => by cases e))
        clear hwa hga
        refine hK.out _ _ trivial (fun ht10 => ?_)
        clear hK K
        try simp only [Act.put, List.setIfInBounds_toArray, List.set_cons_zero, List.set_cons_succ]
        refine wpAnyH_ready (rs := [9]) (by kernel_rfl) (by simp) ?_
        refine AllReadyH.cons (o := ?ot11) ?ht11 ?st11 AllReadyH.nil
        case ht11 => (simp only [List.getElem?_toArray, List.getElem?_cons_zero, List.getElem?_cons_succ]; rfl)
        case st11 =>
          intro K hK
          refine step_append_recK _ rfl (.tmp 54) (.tmp 57) 22 rfl w4.heap.size 36 i0 _ 2 32 Try.underlying22 hi hz0 hz1 hz2 rfl (by decide) va (k + 1) _ rfl HWA.out (ad.add (k * 2)) (n - k) (c - k) (((RR.drop k).take (n - k)).flatMap docCells) rfl (HDL.out) ((HRO.out.below HBA.out).src k (n - k)) (HONED.out) (by unfold maxLen; omega) (by omega) HBA.out.size ?_
          intro vb ub hwb hgb _
          rw [show k + 1 + (n - k) = n + 1 by omega, ← List.flatMap_append, HTW.out] at hwb
          obtain ⟨A6, c6, hv6⟩ := own_slice hwb
          subst hv6
          have HWB := Lib.hid hwb
          have HB6 := Lib.hid (HBA.out.grown hgb HBA.out.size (fun g e => (HWA.out.lt g e).1))
          clear hwb hgb
          refine hK.out _ _ trivial (fun ht12 => ?_)
          clear hK K
          try simp only [Act.put, List.setIfInBounds_toArray, List.set_cons_zero, List.set_cons_succ]
          refine wpAnyH_take (i := 10) (oi := ?oit1310) (v := ?vt1310) ?hit1310 (by kernel_rfl) (by kernel_rfl) (by kernel_rfl) ?hQt1310 (Or.inl ⟨?hwt1310, ?hyt1310⟩) (by assumption) ?restt1310
          case hit1310 => (first | (simp only [List.getElem?_toArray, List.getElem?_cons_zero, List.getElem?_cons_succ]; rfl) | rfl)
          case hQt1310 => exact fun _ _ _ h => h
          case hwt1310 => rfl
          case hyt1310 => ((intro w hSw; go_simp); first | done | with_reducible rfl)
          try simp only [Act.put, List.setIfInBounds_toArray, List.set_cons_zero, List.set_cons_succ]
          refine wpAnyH_done (by kernel_rfl) ?_ _
          have hrw6 := HRO.out.below HB6.out
          have hsee6 : PostsSee ub A6 (n + 1) (l.take (k + 1) ++ l.drop k) := row_see HWB.out (by rw [List.length_append, List.length_take, List.length_drop, HLN.out]; omega) (by rw [List.length_append, List.length_take, List.length_drop, HRL.out]; omega) (by unfold maxLen; omega) (hrw6.twice (by rw [HLN.out]; exact hkn))
          obtain ⟨R2, hR2⟩ : ∃ R2, checkP (l.take (k + 1) ++ l.drop k) = R2 := ⟨_, rfl⟩
          have hor := check_twice HV.out (k := k) (by rw [HLN.out]; exact hkn)
          rw [hR2, List.length_append, List.length_take, List.length_drop, HLN.out, show min (k + 1) n + (n - k) = n + 1 by omega] at hor
          have HOR := Lib.hid hor
          have HC6 := Lib.hid (put_is HK.out hsee6 (rowCap_le HWB.out) (by omega) (fun x hx => by
            rcases List.mem_append.1 hx with h | h
            · exact HX2.out x (List.mem_of_mem_take h)
            · exact HX2.out x (List.mem_of_mem_drop h)) rfl hR2)
          have HB46 := Lib.hid (below_then HB4.out HB6.out HB4.out.size)
          obtain ⟨x, hx⟩ : ∃ x, l[k]? = some x := ⟨_, List.getElem?_eq_getElem (by rw [HLN.out]; exact hkn)⟩
          obtain ⟨⟨p1, p2⟩, hp⟩ : ∃ p, RR[k]? = some p := ⟨_, List.getElem?_eq_getElem (by rw [HRL.out]; exact hkn)⟩
          have hpx : p1 = x.1 := (hrw6.row k _ _ hp hx).1
          subst hpx
          have HXK := Lib.hid hx
          have HRK := Lib.hid hp
          clear hx hp
          clear hrw6 hsee6 hR2 hor hHeld hTrue hsl2 hsl3
          go_wp2_with fail
          refine HC6.out.mono ?_
          rintro e w7 ⟨A7, c7, rfl, -, -, -, hb7⟩
          have HB7 := Lib.hid (below_then HB46.out hb7 HB46.out.size)
          have HRO7 := Lib.hid (HRW.out.below HB7.out)
          have HAL : Hid ((RR.flatMap docCells).length = n * 2) := Lib.hid (by rw [doc_len, HRL.out])
          have HSR : Hid (∀ (j : Nat) (u : Value), (RR.flatMap docCells)[j]? = some u → w7.cell? (ad.add j) = some u) := Lib.hid (by have := HRO7.out.src0 n; rwa [List.take_of_length_le (by rw [HRL.out]; exact Nat.le_refl _)] at this)
          clear hb7 HC6
          go_wp2_with (at_builtin; refine wpList_append_own_at _ rfl (.tmp 64) (.tmp 65) 22 rfl w7.heap.size 36 i0 _ 2 32 Try.underlying22 hi hz0 hz1 hz2 rfl (by decide) (.slice none 0 0) 0 [] rfl ⟨rfl, .inl ⟨rfl, rfl⟩⟩ ad n c (RR.flatMap docCells) rfl HAL.out HSR.out HRO7.out.one (by unfold maxLen; omega) (by omega) (Nat.le_refl _) ?_; intro v8 w8 hown hgrow _ hloc; rw [Nat.zero_add, List.nil_append] at hown; obtain ⟨g, c8, rfl, hg8, hb8, c8', f8⟩ := none_made hown hn0 hgrow HRK.out; have HO8 := Lib.hid hown; have HB8 := Lib.hid hb8; have HG8 := Lib.hid hg8; have a1 := zero_plus g (k * 2); clear hown hgrow hloc hg8 hb8)
          obtain ⟨V8, hV8⟩ : ∃ z, z = w8.setCell ⟨g, k * 2 + 1, none⟩ (.slice none 0 0) := ⟨_, rfl⟩
          rw [← hV8]
          have hsee8 : PostsSee V8 (some ⟨g, 0, none⟩) n (l.set k (x.1, [])) := by
            rw [hV8]
            exact row_shed HO8.out HLN.out HRL.out (by unfold maxLen; omega) HRO7.out.row HB8.out HG8.out HXK.out
          have hb8 : Below w7.heap.size w7 V8 := by rw [hV8]; exact HB8.out.setCell (p := ⟨g, k * 2 + 1, none⟩) HG8.out _
          have hck8 := check_none HV.out (k := k) (by rw [HLN.out]; exact hkn) x.1
          have HC8 := Lib.hid (put_is HK.out hsee8 (rowCap_le HO8.out) (by omega) (fun y hy => by
            rcases List.mem_or_eq_of_mem_set hy with h | rfl
            · exact HX2.out y h
            · simp) rfl hck8)
          have HB88 := Lib.hid (below_then HB7.out hb8 HB7.out.size)
          clear hV8 hsee8 hb8 hck8 c8' f8 a1
          refine HC8.out.mono ?_
          rintro e w9 ⟨A9, c9, rfl, -, -, -, hb9⟩
          have HB9 := Lib.hid (below_then HB88.out hb9 HB88.out.size)
          have hro9 := HRW.out.below HB9.out
          have HRO9 := Lib.hid hro9
          have hss : ∀ u, Below w9.heap.size w9 u → u.cell? (ad.add (k * 2)) = some (.int .i64 x.1) ∧ u.cell? ⟨(ad.add (k * 2)).block, (ad.add (k * 2)).off + 1, none⟩ = some p2 := fun u hu => by
            obtain ⟨h1, h2⟩ := (hro9.below hu).cells ad rfl k _ HRK.out
            rw [add_pos' _ _ _ (by omega)] at h2
            exact ⟨h1, h2⟩
          have HSS := Lib.hid hss
          have HPONE := Lib.hid (hro9.row k _ _ HRK.out HXK.out).one
          have hsl1 := fun w => posts_to w (some ad) n c k (by omega)
          have q0 : (0 : Int) ≤ (k : Int) := by omega
          have q1 : (k : Int) < (n : Int) := by omega
          clear hb9 HC8 hro9 hss
          go_wp2_with fail
          refine wp_region_held_drew (S := fun w' => w'.cell? (ad.add (k * 2)) = some (.int .i64 x.1) ∧ w'.cell? ⟨(ad.add (k * 2)).block, (ad.add (k * 2)).off + 1, none⟩ = some p2) (by kernel_rfl) (HSS.out w9 (Below.refl _ _)) (fun hHeld => ?_)
          obtain ⟨u0, hu0⟩ : ∃ z, z = w9.drew := ⟨_, rfl⟩
          rw [← hu0]
          have HBU : Hid (Below w9.heap.size w9 u0) := Lib.hid (by rw [hu0]; exact (Below.refl _ w9).drew)
          have hSu := HSS.out _ HBU.out
          clear hu0
          refine wpAnyH_take (i := 1) (oi := ?oiy11) (v := ?vy11) ?hiy11 (by kernel_rfl) (by kernel_rfl) (by kernel_rfl) ?hQy11 (Or.inl ⟨?hwy11, ?hyy11⟩) (by assumption) ?resty11
          case hiy11 => (first | (simp only [List.getElem?_toArray, List.getElem?_cons_zero, List.getElem?_cons_succ]; rfl) | rfl)
          case hQy11 => exact fun _ _ _ h => h
          case hwy11 => rfl
          case hyy11 => ((intro w hSw; go_simp); first | done | with_reducible rfl)
          try simp only [Act.put, List.setIfInBounds_toArray, List.set_cons_zero, List.set_cons_succ]
          refine wpAnyH_take (i := 2) (oi := ?oiy22) (v := ?vy22) ?hiy22 (by kernel_rfl) (by kernel_rfl) (by kernel_rfl) ?hQy22 (Or.inl ⟨?hwy22, ?hyy22⟩) (by assumption) ?resty22
          case hiy22 => (first | (simp only [List.getElem?_toArray, List.getElem?_cons_zero, List.getElem?_cons_succ]; rfl) | rfl)
          case hQy22 => exact fun _ _ _ h => h
          case hwy22 => rfl
          case hyy22 => ((intro w hSw; go_simp); first | done | with_reducible rfl)
          try simp only [Act.put, List.setIfInBounds_toArray, List.set_cons_zero, List.set_cons_succ]
          refine wpAnyH_take (i := 7) (oi := ?oiy37) (v := ?vy37) ?hiy37 (by kernel_rfl) (by kernel_rfl) (by kernel_rfl) ?hQy37 (Or.inl ⟨?hwy37, ?hyy37⟩) (by assumption) ?resty37
          case hiy37 => (first | (simp only [List.getElem?_toArray, List.getElem?_cons_zero, List.getElem?_cons_succ]; rfl) | rfl)
          case hQy37 => exact fun _ _ _ h => h
          case hwy37 => rfl
          case hyy37 => ((intro w hSw; go_simp); first | done | with_reducible rfl)
          try simp only [Act.put, List.setIfInBounds_toArray, List.set_cons_zero, List.set_cons_succ]
          refine wpAnyH_take (i := 8) (oi := ?oiy48) (v := ?vy48) ?hiy48 (by kernel_rfl) (by kernel_rfl) (by kernel_rfl) ?hQy48 (Or.inl ⟨?hwy48, ?hyy48⟩) (by assumption) ?resty48
          case hiy48 => (first | (simp only [List.getElem?_toArray, List.getElem?_cons_zero, List.getElem?_cons_succ]; rfl) | rfl)
          case hQy48 => exact fun _ _ _ h => h
          case hwy48 => rfl
          case hyy48 => ((intro w hSw; go_simp); first | done | with_reducible rfl)
          try simp only [Act.put, List.setIfInBounds_toArray, List.set_cons_zero, List.set_cons_succ]
          refine wpAnyH_take (i := 3) (oi := ?oiy53) (v := ?vy53) ?hiy53 (by kernel_rfl) (by kernel_rfl) (by kernel_rfl) ?hQy53 (Or.inl ⟨?hwy53, ?hyy53⟩) (by assumption) ?resty53
          case hiy53 => (first | (simp only [List.getElem?_toArray, List.getElem?_cons_zero, List.getElem?_cons_succ]; rfl) | rfl)
          case hQy53 => exact fun _ _ _ h => h
          case hwy53 => rfl
          case hyy53 => ((intro w hSw; go_simp); first | done | with_reducible rfl)
          try simp only [Act.put, List.setIfInBounds_toArray, List.set_cons_zero, List.set_cons_succ]
          refine wpAnyH_take (i := 9) (oi := ?oiy69) (v := ?vy69) ?hiy69 (by kernel_rfl) (by kernel_rfl) (by kernel_rfl) ?hQy69 (Or.inl ⟨?hwy69, ?hyy69⟩) (by assumption) ?resty69
          case hiy69 => (first | (simp only [List.getElem?_toArray, List.getElem?_cons_zero, List.getElem?_cons_succ]; rfl) | rfl)
          case hQy69 => exact fun _ _ _ h => h
          case hwy69 => rfl
          case hyy69 => ((intro w hSw; go_simp); first | done | with_reducible rfl)
          try simp only [Act.put, List.setIfInBounds_toArray, List.set_cons_zero, List.set_cons_succ]
          refine wpAnyH_take (i := 4) (oi := ?oiy74) (v := ?vy74) ?hiy74 (by kernel_rfl) (by kernel_rfl) (by kernel_rfl) ?hQy74 (Or.inl ⟨?hwy74, ?hyy74⟩) (by assumption) ?resty74
          case hiy74 => (first | (simp only [List.getElem?_toArray, List.getElem?_cons_zero, List.getElem?_cons_succ]; rfl) | rfl)
          case hQy74 => exact fun _ _ _ h => h
          case hwy74 => rfl
          case hyy74 => ((intro w hSw; go_simp); first | done | with_reducible rfl)
          try simp only [Act.put, List.setIfInBounds_toArray, List.set_cons_zero, List.set_cons_succ]
          refine wpAnyH_ready (rs := [0, 5]) (by kernel_rfl) (by simp) ?_
          refine AllReadyH.cons (o := ?oy8) ?hy8 ?sy8 (AllReadyH.cons (o := ?oy9) ?hy9 ?sy9 AllReadyH.nil)
          case hy8 => (simp only [List.getElem?_toArray, List.getElem?_cons_zero, List.getElem?_cons_succ]; rfl)
          case hy9 => (simp only [List.getElem?_toArray, List.getElem?_cons_zero, List.getElem?_cons_succ]; rfl)
          case sy8 =>
            intro K hK
            go_simp
            obtain ⟨ul1, hul2⟩ : ∃ z, z = u0.alloc (.cells #[] 36) := ⟨_, rfl⟩
            have Ol4 : Hid (ul1.ownsRow w9.heap.size 36 2 (.slice (some ⟨u0.heap.size, 0, none⟩) 0 0) 0 []) := Lib.hid (by rw [hul2]; exact rowBase_le (World.ownsRow_made u0 #[] 0 (Nat.le_refl _) (Nat.zero_le _) rfl) HBU.out.size)
            have Bl3 : Hid (Below w9.heap.size w9 ul1) := Lib.hid (by rw [hul2]; exact HBU.out.alloc HBU.out.size _)
            rw [← hul2]
            have Sl5 := HSS.out _ Bl3.out
            clear hul2
            refine hK.out _ _ (HSS.out _ Bl3.out) (fun hy10 => ?_)
            clear hK K
            try simp only [Act.put, List.setIfInBounds_toArray, List.set_cons_zero, List.set_cons_succ]
            refine wpAnyH_ready (rs := [5]) (by kernel_rfl) (by simp) ?_
            refine AllReadyH.cons (o := ?oy11) ?hy11 ?sy11 AllReadyH.nil
            case hy11 => (simp only [List.getElem?_toArray, List.getElem?_cons_zero, List.getElem?_cons_succ]; rfl)
            case sy11 =>
              intro K hK
              go_simp
              obtain ⟨ul6, hul7⟩ : ∃ z, z = ul1.alloc (.cells #[.int .i64 x.1, p2] 36) := ⟨_, rfl⟩
              have Nl9 : Hid (Blk ul6 ul1.heap.size 36 #[.int .i64 x.1, p2]) := Lib.hid (by rw [hul7]; exact Blk.new _ _ _)
              have Bl8 : Hid (Below w9.heap.size w9 ul6) := Lib.hid (by rw [hul7]; exact Bl3.out.alloc Bl3.out.size _)
              have Ol10 : Hid (ul6.ownsRow w9.heap.size 36 2 (.slice (some ⟨u0.heap.size, 0, none⟩) 0 0) 0 []) := Lib.hid (by rw [hul7]; exact World.ownsRow.alloc Ol4.out _)
              rw [← hul7]
              have Sl11 := HSS.out _ Bl8.out
              clear hul7
              refine hK.out _ _ (HSS.out _ Bl8.out) (fun hy12 => ?_)
              clear hK K
              try simp only [Act.put, List.setIfInBounds_toArray, List.set_cons_zero, List.set_cons_succ]
              refine wpAnyH_ready (rs := [6]) (by kernel_rfl) (by simp) ?_
              refine AllReadyH.cons (o := ?oy13) ?hy13 ?sy13 AllReadyH.nil
              case hy13 => (simp only [List.getElem?_toArray, List.getElem?_cons_zero, List.getElem?_cons_succ]; rfl)
              case sy13 =>
                intro K hK
                refine step_append_recK _ rfl (.tmp 76) (.tmp 81) 22 rfl w9.heap.size 36 i0 _ 2 32 Try.underlying22 hi hz0 hz1 hz2 rfl (by decide) _ 0 [] rfl Ol10.out ⟨ul1.heap.size, 0, none⟩ 1 1 (docCells (x.1, p2)) rfl rfl (doc_src (p := (x.1, p2)) Nl9.out) (HPONE.out) (by unfold maxLen; omega) (by omega) Bl8.out.size ?_
                intro vl13 ul12 hwl14 hgl15 _
                rw [Nat.zero_add, List.nil_append] at hwl14
                have Ol17 := Lib.hid hwl14
                have Bl16 := Lib.hid (Bl8.out.grown hgl15 Bl8.out.size (fun g e => (Ol10.out.lt g e).1))
                have Sl18 := HSS.out _ Bl16.out
                clear hwl14 hgl15
                refine hK.out _ _ (HSS.out _ Bl16.out) (fun hy14 => ?_)
                clear hK K
                try simp only [Act.put, List.setIfInBounds_toArray, List.set_cons_zero, List.set_cons_succ]
                refine wpAnyH_ready (rs := [10]) (by kernel_rfl) (by simp) ?_
                refine AllReadyH.cons (o := ?oy15) ?hy15 ?sy15 AllReadyH.nil
                case hy15 => (simp only [List.getElem?_toArray, List.getElem?_cons_zero, List.getElem?_cons_succ]; rfl)
                case sy15 =>
                  intro K hK
                  refine step_append_recK _ rfl (.tmp 82) (.tmp 85) 22 rfl w9.heap.size 36 i0 _ 2 32 Try.underlying22 hi hz0 hz1 hz2 rfl (by decide) vl13 1 _ rfl Ol17.out ad k c ((RR.take k).flatMap docCells) rfl (HTL.out k (by omega)) ((HRO9.out.below Bl16.out).src0 k) (HONE.out k) (by unfold maxLen; omega) (by omega) Bl16.out.size ?_
                  intro vl20 ul19 hwl21 hgl22 _
                  obtain ⟨A10, c10, hv10⟩ := own_slice hwl21
                  subst hv10
                  have HWL := Lib.hid hwl21
                  have HB10 := Lib.hid (Bl16.out.grown hgl22 Bl16.out.size (fun g e => (Ol17.out.lt g e).1))
                  have Sl23 := HSS.out _ HB10.out
                  clear hwl21 hgl22
                  refine hK.out _ _ (HSS.out _ HB10.out) (fun hy16 => ?_)
                  clear hK K
                  try simp only [Act.put, List.setIfInBounds_toArray, List.set_cons_zero, List.set_cons_succ]
                  refine wpAnyH_take (i := 11) (oi := ?oiy1711) (v := ?vy1711) ?hiy1711 (by kernel_rfl) (by kernel_rfl) (by kernel_rfl) ?hQy1711 (Or.inl ⟨?hwy1711, ?hyy1711⟩) (by assumption) ?resty1711
                  case hiy1711 => (first | (simp only [List.getElem?_toArray, List.getElem?_cons_zero, List.getElem?_cons_succ]; rfl) | rfl)
                  case hQy1711 => exact fun _ _ _ h => h
                  case hwy1711 => rfl
                  case hyy1711 => ((intro w hSw; go_simp); first | done | with_reducible rfl)
                  try simp only [Act.put, List.setIfInBounds_toArray, List.set_cons_zero, List.set_cons_succ]
                  refine wpAnyH_done (by kernel_rfl) ?_ _
                  have hrw10 := HRO9.out.below HB10.out
                  have hsee10 : PostsSee ul19 A10 (1 + k) ([x] ++ l.take k) := row_see (R := [(x.1, p2)] ++ RR.take k) (by rw [List.flatMap_append]; simpa using HWL.out) (by rw [List.length_append, List.length_take, HLN.out]; simp; omega) (by rw [List.length_append, List.length_take, HRL.out]; simp; omega) (by unfold maxLen; omega) (hrw10.late HRK.out HXK.out)
                  obtain ⟨R3, hR3⟩ : ∃ R3, checkP ([x] ++ l.take k) = R3 := ⟨_, rfl⟩
                  have hxx : pAt l k = x := pAt_eq HXK.out
                  have hr0 : k = 0 → R3 = 0 := fun h => by
                    subst h
                    rw [← hR3, ← hxx]
                    exact check_first (fit_of HL.out.1) HV.out (by rw [HLN.out]; exact hkn)
                  have hr1 : 0 < k → R3 = 1 := fun h => by
                    rw [← hR3, ← hxx]
                    exact check_late HV.out (by rw [HLN.out]; exact hkn) h
                  have HC10 := Lib.hid (put_is HK.out hsee10 (rowCap_le HWL.out) (by omega) (fun y hy => by
                    rcases List.mem_append.1 hy with h | h
                    · rw [List.mem_singleton.1 h]; exact HX2.out x (List.mem_of_getElem? HXK.out)
                    · exact HX2.out y (List.mem_of_mem_take h)) rfl hR3)
                  have HB99 := Lib.hid (below_then HB9.out HB10.out HB9.out.size)
                  clear hrw10 hsee10 hR3 hxx hHeld hsl1 q0 q1
                  go_wp2_with fail
                  refine HC10.out.mono ?_
                  rintro e w11 ⟨A11, c11, rfl, -, -, -, hb11⟩
                  have HB11 := Lib.hid (below_then HB99.out hb11 HB99.out.size)
                  clear hb11 HC10
                  by_cases hk0 : k = 0
                  · have d1 : ((k : Int) == 0) = true := by simp; omega
                    have hr3 := hr0 hk0
                    subst hr3
                    clear hr0 hr1 hk0
                    rcases Classical.em (R2 = 1) with h2 | h2
                    · have d2 : (R2 == 1) = true := by simpa using h2
                      clear h2
                      go_wp2
                      go_ret
                      exact ⟨rfl, HB11.out⟩
                    · have d2 : (R2 == 1) = false := by simpa using h2
                      have h4 : 4096 < n + 1 := HOR.out.resolve_right h2
                      have d3 : decide ((4096 : Int) < ((n + 1 : Nat) : Int)) = true := decide_eq_true (by omega)
                      have d4 : decide ((4096 : Int) < (n : Int) + 1) = true := decide_eq_true (by omega)
                      clear h2 h4
                      go_wp2
                      go_ret
                      exact ⟨rfl, HB11.out⟩
                  · have d1 : ((k : Int) == 0) = false := by simp; omega
                    have hr3 := hr1 (by omega)
                    subst hr3
                    clear hr0 hr1 hk0
                    rcases Classical.em (R2 = 1) with h2 | h2
                    · have d2 : (R2 == 1) = true := by simpa using h2
                      clear h2
                      go_wp2
                      go_ret
                      exact ⟨rfl, HB11.out⟩
                    · have d2 : (R2 == 1) = false := by simpa using h2
                      have h4 : 4096 < n + 1 := HOR.out.resolve_right h2
                      have d3 : decide ((4096 : Int) < ((n + 1 : Nat) : Int)) = true := decide_eq_true (by omega)
                      have d4 : decide ((4096 : Int) < (n : Int) + 1) = true := decide_eq_true (by omega)
                      clear h2 h4
                      go_wp2
                      go_ret
                      exact ⟨rfl, HB11.out⟩
          case sy9 =>
            intro K hK
            go_simp
            obtain ⟨ul24, hul25⟩ : ∃ z, z = u0.alloc (.cells #[.int .i64 x.1, p2] 36) := ⟨_, rfl⟩
            have Nl27 : Hid (Blk ul24 u0.heap.size 36 #[.int .i64 x.1, p2]) := Lib.hid (by rw [hul25]; exact Blk.new _ _ _)
            have Bl26 : Hid (Below w9.heap.size w9 ul24) := Lib.hid (by rw [hul25]; exact HBU.out.alloc HBU.out.size _)
            rw [← hul25]
            have Sl28 := HSS.out _ Bl26.out
            clear hul25
            refine hK.out _ _ (HSS.out _ Bl26.out) (fun hy18 => ?_)
            clear hK K
            try simp only [Act.put, List.setIfInBounds_toArray, List.set_cons_zero, List.set_cons_succ]
            refine wpAnyH_ready (rs := [0]) (by kernel_rfl) (by simp) ?_
            refine AllReadyH.cons (o := ?oy19) ?hy19 ?sy19 AllReadyH.nil
            case hy19 => (simp only [List.getElem?_toArray, List.getElem?_cons_zero, List.getElem?_cons_succ]; rfl)
            case sy19 =>
              intro K hK
              go_simp
              obtain ⟨ul29, hul30⟩ : ∃ z, z = ul24.alloc (.cells #[] 36) := ⟨_, rfl⟩
              have Ol32 : Hid (ul29.ownsRow w9.heap.size 36 2 (.slice (some ⟨ul24.heap.size, 0, none⟩) 0 0) 0 []) := Lib.hid (by rw [hul30]; exact rowBase_le (World.ownsRow_made ul24 #[] 0 (Nat.le_refl _) (Nat.zero_le _) rfl) Bl26.out.size)
              have Bl31 : Hid (Below w9.heap.size w9 ul29) := Lib.hid (by rw [hul30]; exact Bl26.out.alloc Bl26.out.size _)
              have Nl33 : Hid (Blk ul29 u0.heap.size 36 #[.int .i64 x.1, p2]) := Lib.hid (by rw [hul30]; exact Nl27.out.alloc _)
              rw [← hul30]
              have Sl34 := HSS.out _ Bl31.out
              clear hul30
              refine hK.out _ _ (HSS.out _ Bl31.out) (fun hy20 => ?_)
              clear hK K
              try simp only [Act.put, List.setIfInBounds_toArray, List.set_cons_zero, List.set_cons_succ]
              refine wpAnyH_ready (rs := [6]) (by kernel_rfl) (by simp) ?_
              refine AllReadyH.cons (o := ?oy21) ?hy21 ?sy21 AllReadyH.nil
              case hy21 => (simp only [List.getElem?_toArray, List.getElem?_cons_zero, List.getElem?_cons_succ]; rfl)
              case sy21 =>
                intro K hK
                refine step_append_recK _ rfl (.tmp 76) (.tmp 81) 22 rfl w9.heap.size 36 i0 _ 2 32 Try.underlying22 hi hz0 hz1 hz2 rfl (by decide) _ 0 [] rfl Ol32.out ⟨u0.heap.size, 0, none⟩ 1 1 (docCells (x.1, p2)) rfl rfl (doc_src (p := (x.1, p2)) Nl33.out) (HPONE.out) (by unfold maxLen; omega) (by omega) Bl31.out.size ?_
                intro vl36 ul35 hwl37 hgl38 _
                rw [Nat.zero_add, List.nil_append] at hwl37
                have Ol40 := Lib.hid hwl37
                have Bl39 := Lib.hid (Bl31.out.grown hgl38 Bl31.out.size (fun g e => (Ol32.out.lt g e).1))
                have Sl41 := HSS.out _ Bl39.out
                clear hwl37 hgl38
                refine hK.out _ _ (HSS.out _ Bl39.out) (fun hy22 => ?_)
                clear hK K
                try simp only [Act.put, List.setIfInBounds_toArray, List.set_cons_zero, List.set_cons_succ]
                refine wpAnyH_ready (rs := [10]) (by kernel_rfl) (by simp) ?_
                refine AllReadyH.cons (o := ?oy23) ?hy23 ?sy23 AllReadyH.nil
                case hy23 => (simp only [List.getElem?_toArray, List.getElem?_cons_zero, List.getElem?_cons_succ]; rfl)
                case sy23 =>
                  intro K hK
                  refine step_append_recK _ rfl (.tmp 82) (.tmp 85) 22 rfl w9.heap.size 36 i0 _ 2 32 Try.underlying22 hi hz0 hz1 hz2 rfl (by decide) vl36 1 _ rfl Ol40.out ad k c ((RR.take k).flatMap docCells) rfl (HTL.out k (by omega)) ((HRO9.out.below Bl39.out).src0 k) (HONE.out k) (by unfold maxLen; omega) (by omega) Bl39.out.size ?_
                  intro vl43 ul42 hwl44 hgl45 _
                  obtain ⟨A10, c10, hv10⟩ := own_slice hwl44
                  subst hv10
                  have HWL := Lib.hid hwl44
                  have HB10 := Lib.hid (Bl39.out.grown hgl45 Bl39.out.size (fun g e => (Ol40.out.lt g e).1))
                  have Sl46 := HSS.out _ HB10.out
                  clear hwl44 hgl45
                  refine hK.out _ _ (HSS.out _ HB10.out) (fun hy24 => ?_)
                  clear hK K
                  try simp only [Act.put, List.setIfInBounds_toArray, List.set_cons_zero, List.set_cons_succ]
                  refine wpAnyH_take (i := 11) (oi := ?oiy2511) (v := ?vy2511) ?hiy2511 (by kernel_rfl) (by kernel_rfl) (by kernel_rfl) ?hQy2511 (Or.inl ⟨?hwy2511, ?hyy2511⟩) (by assumption) ?resty2511
                  case hiy2511 => (first | (simp only [List.getElem?_toArray, List.getElem?_cons_zero, List.getElem?_cons_succ]; rfl) | rfl)
                  case hQy2511 => exact fun _ _ _ h => h
                  case hwy2511 => rfl
                  case hyy2511 => ((intro w hSw; go_simp); first | done | with_reducible rfl)
                  try simp only [Act.put, List.setIfInBounds_toArray, List.set_cons_zero, List.set_cons_succ]
                  refine wpAnyH_done (by kernel_rfl) ?_ _
                  have hrw10 := HRO9.out.below HB10.out
                  have hsee10 : PostsSee ul42 A10 (1 + k) ([x] ++ l.take k) := row_see (R := [(x.1, p2)] ++ RR.take k) (by rw [List.flatMap_append]; simpa using HWL.out) (by rw [List.length_append, List.length_take, HLN.out]; simp; omega) (by rw [List.length_append, List.length_take, HRL.out]; simp; omega) (by unfold maxLen; omega) (hrw10.late HRK.out HXK.out)
                  obtain ⟨R3, hR3⟩ : ∃ R3, checkP ([x] ++ l.take k) = R3 := ⟨_, rfl⟩
                  have hxx : pAt l k = x := pAt_eq HXK.out
                  have hr0 : k = 0 → R3 = 0 := fun h => by
                    subst h
                    rw [← hR3, ← hxx]
                    exact check_first (fit_of HL.out.1) HV.out (by rw [HLN.out]; exact hkn)
                  have hr1 : 0 < k → R3 = 1 := fun h => by
                    rw [← hR3, ← hxx]
                    exact check_late HV.out (by rw [HLN.out]; exact hkn) h
                  have HC10 := Lib.hid (put_is HK.out hsee10 (rowCap_le HWL.out) (by omega) (fun y hy => by
                    rcases List.mem_append.1 hy with h | h
                    · rw [List.mem_singleton.1 h]; exact HX2.out x (List.mem_of_getElem? HXK.out)
                    · exact HX2.out y (List.mem_of_mem_take h)) rfl hR3)
                  have HB99 := Lib.hid (below_then HB9.out HB10.out HB9.out.size)
                  clear hrw10 hsee10 hR3 hxx hHeld hsl1 q0 q1
                  go_wp2_with fail
                  refine HC10.out.mono ?_
                  rintro e w11 ⟨A11, c11, rfl, -, -, -, hb11⟩
                  have HB11 := Lib.hid (below_then HB99.out hb11 HB99.out.size)
                  clear hb11 HC10
                  by_cases hk0 : k = 0
                  · have d1 : ((k : Int) == 0) = true := by simp; omega
                    have hr3 := hr0 hk0
                    subst hr3
                    clear hr0 hr1 hk0
                    rcases Classical.em (R2 = 1) with h2 | h2
                    · have d2 : (R2 == 1) = true := by simpa using h2
                      clear h2
                      go_wp2
                      go_ret
                      exact ⟨rfl, HB11.out⟩
                    · have d2 : (R2 == 1) = false := by simpa using h2
                      have h4 : 4096 < n + 1 := HOR.out.resolve_right h2
                      have d3 : decide ((4096 : Int) < ((n + 1 : Nat) : Int)) = true := decide_eq_true (by omega)
                      have d4 : decide ((4096 : Int) < (n : Int) + 1) = true := decide_eq_true (by omega)
                      clear h2 h4
                      go_wp2
                      go_ret
                      exact ⟨rfl, HB11.out⟩
                  · have d1 : ((k : Int) == 0) = false := by simp; omega
                    have hr3 := hr1 (by omega)
                    subst hr3
                    clear hr0 hr1 hk0
                    rcases Classical.em (R2 = 1) with h2 | h2
                    · have d2 : (R2 == 1) = true := by simpa using h2
                      clear h2
                      go_wp2
                      go_ret
                      exact ⟨rfl, HB11.out⟩
                    · have d2 : (R2 == 1) = false := by simpa using h2
                      have h4 : 4096 < n + 1 := HOR.out.resolve_right h2
                      have d3 : decide ((4096 : Int) < ((n + 1 : Nat) : Int)) = true := decide_eq_true (by omega)
                      have d4 : decide ((4096 : Int) < (n : Int) + 1) = true := decide_eq_true (by omega)
                      clear h2 h4
                      go_wp2
                      go_ret
                      exact ⟨rfl, HB11.out⟩
    · by_cases hr0 : R = 0
      · subst hr0
        have hn0 : n = 0 := by omega
        have d1 : ((n : Int) == 0) = true := by simp; omega
        clear h0 hn0
        go_wp2
        go_ret
        exact ⟨rfl, HB3.out⟩
      · have d2 : (R == 0) = false := by simpa using hr0
        have d2' : (R != 0) = true := by simpa using hr0
        clear h0 hr0
        go_wp2
        go_ret
        exact ⟨rfl, HB3.out⟩
end Go.Proofs.Ytmcoooepoikgjaa
