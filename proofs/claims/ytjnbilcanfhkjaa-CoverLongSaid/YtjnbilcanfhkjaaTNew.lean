/- The contracts of New, Prefix, Suffix, Infix. -/
import Derived.Test.YtjnbilcanfhkjaaTMath
namespace Go.Proofs.Ytjnbilcanfhkjaa
open Go.RowKit Go.Maps Go.WideMaps Go.Shelf

attribute [local go_sem] Oper.semAt_some

theorem isLong_any (w : World) (A : Option Addr) (n c : Nat) : Calls Try.prog 30 #[.slice A n c] w fun e w' => e = .returned (.bool (decide ((16 : Int) < (n : Int)))) ∧ w' = w := by
  obtain ⟨r, hr⟩ : ∃ r, r = decide ((16 : Int) < (n : Int)) := ⟨_, rfl⟩
  rw [← hr]
  have hr2 : decide ((16 : Int) < (n : Int)) = r := hr.symm
  clear hr
  go_enter Try.func30, Try.ntmps30
  go_wp2
  go_ret
  exact ⟨by first | rfl | rw [hr2], rfl⟩

set_option maxHeartbeats 4000000 in
set_option maxRecDepth 100000 in
theorem idxLong_any (w : World) (A : Option Addr) (n ca : Nat) (L : List Nm) (ha : RowsSee w A n L) (hn : n ≤ 140737488355328) :
    Calls Try.prog 37 #[.slice A n ca, .func (.func 30) #[] #[]] w fun e w' => ∃ r : Int, e = .returned (.int .i64 r) ∧ decide ((0 : Int) ≤ r) = (L.any fun x => decide (16 < List.length x)) ∧ w' = w := by
  have HA := Lib.hid ha
  have hla := ha.len
  have HLA := Lib.hid hla
  clear ha hla
  go_enter Try.func37, Try.ntmps37
  go_wp2
  go_loopw [8] (fun i wr => ∃ k : Nat, k ≤ n ∧ i = .int .i64 k ∧ wr = w ∧ ∀ j x, j < k → L[j]? = some x → List.length x ≤ 16) (fun i _ => n - (intOf i).toNat)
  case atStart => exact ⟨0, by omega, rfl, rfl, fun j x h => by omega⟩
  case round =>
    obtain ⟨k, hk, rfl, rfl, hall⟩ := hrel
    have HALL := Lib.hid hall
    clear hall
    rcases Nat.lt_or_ge k n with hlt | hge
    · have hlt' : (k : Int) < (n : Int) := by omega
      have p0 : (0 : Int) ≤ (k : Int) := by omega
      obtain ⟨x, hx⟩ : ∃ x, L[k]? = some x := ⟨_, List.getElem?_eq_getElem (by rw [HLA.out]; exact hlt)⟩
      obtain ⟨pa, Ax, cx, rfl, ea, ecx, ex⟩ := HA.out.at_ k x hx
      have hxx := Lib.hid hx
      have hlong := isLong_any wr Ax x.length cx
      have HLONG := Lib.hid hlong
      clear hx ex hlong
      by_cases hw : 16 < x.length
      · have d2 : decide ((16 : Int) < (x.length : Int)) = true := by simp; omega
        rw [d2] at HLONG
        go_wp2_with fail
        refine HLONG.out.mono ?_
        rintro e w2 ⟨rfl, rfl⟩
        go_wp2
        go_ret
        refine ⟨_, rfl, ?_, rfl⟩
        rw [List.any_eq_true.2 ⟨x, List.mem_of_getElem? hxx.out, by simpa using hw⟩]
        simp
      · have d2 : decide ((16 : Int) < (x.length : Int)) = false := by simp; omega
        rw [d2] at HLONG
        go_wp2_with fail
        refine HLONG.out.mono ?_
        rintro e w2 ⟨rfl, rfl⟩
        go_wp2
        go_roundw
        case rel =>
          refine ⟨k + 1, by omega, by go_num, by first | rfl | trivial, fun j y hj hy => ?_⟩
          rcases Nat.lt_or_ge j k with h | h
          · exact HALL.out j y h hy
          · obtain rfl : j = k := by omega
            rw [hxx.out] at hy
            obtain rfl := Option.some.inj hy
            omega
        case measure => simp [intOf]; omega
    · obtain rfl : k = n := by omega
      have hlz : ¬ ((k : Int) < (k : Int)) := by omega
      go_wp2
      go_ret
      refine ⟨_, rfl, ?_, rfl⟩
      have : (L.any fun x => decide (16 < List.length x)) = false := List.any_eq_false.2 fun x hx => by
        obtain ⟨j, hj⟩ := List.mem_iff_getElem?.1 hx
        have := HALL.out j x (by have := (List.getElem?_eq_some_iff.1 hj).1; have := HLA.out; omega) hj
        simp; omega
      rw [this]
      rfl

theorem contLong_any (w : World) (A : Option Addr) (n ca : Nat) (L : List Nm) (ha : RowsSee w A n L) (hn : n ≤ 140737488355328) :
    Calls Try.prog 29 #[.slice A n ca, .func (.func 30) #[] #[]] w fun e w' => e = .returned (.bool (L.any fun x => decide (16 < List.length x))) ∧ w' = w := by
  have HI := Lib.hid (idxLong_any w A n ca L ha hn)
  obtain ⟨b, hb⟩ : ∃ b, b = L.any fun x => decide (16 < List.length x) := ⟨_, rfl⟩
  rw [← hb] at HI ⊢
  clear ha hb
  go_enter Try.func29, Try.ntmps29
  go_wp2_with fail
  refine HI.out.mono ?_
  rintro e w2 ⟨r, rfl, hr, rfl⟩
  go_wp2
  go_ret
  exact ⟨by first | rfl | rw [hr], rfl⟩

theorem rightB_any {L : List Nm} (h : L.length ≤ 512) (ha : (L.any fun x => decide (16 < List.length x)) = false) : rightB L = true :=
  rightB_yes h fun j x hx => by
    have := List.any_eq_false.1 ha x (List.mem_of_getElem? hx)
    simpa using this
theorem rightB_not {L : List Nm} (ha : (L.any fun x => decide (16 < List.length x)) = true) : rightB L = false := by
  obtain ⟨x, hx, h⟩ := List.any_eq_true.1 ha
  obtain ⟨k, hk⟩ := List.mem_iff_getElem?.1 hx
  exact rightB_wide hk (by simpa using h)

/-- A trie of these texts, in blocks from base on. -/
def TrieAt (w : World) (b base : Nat) (L : List Nm) : Prop := ∃ T X M, Forest w b T X M ∧ M ≤ 9000000 ∧ (∀ j, T.foot j → base ≤ j) ∧ HoldsX X L L.length
theorem TrieAt.keep {w w' : World} {b base : Nat} {L : List Nm} (h : TrieAt w b base L) (hs : w.heap.size ≤ w'.heap.size) (hb : ∀ j, base ≤ j → j < w.heap.size → w'.heap[j]? = w.heap[j]?) : TrieAt w' b base L := by
  obtain ⟨T, X, M, h1, h2, h3, h4⟩ := h
  exact ⟨T, X, M, h1.keep hs fun j r e => hb j (h3 j ⟨r, e⟩) (h1.lt j r e), h2, h3, h4⟩
theorem TrieAt.below {w w' : World} {b base : Nat} {L : List Nm} (h : TrieAt w b base L) (hb : Below w.heap.size w w') : TrieAt w' b base L := h.keep hb.size fun j _ hj => hb.block j hj

def freshLay (b : Nat) : Lay := ⟨fun j => if j = b then some .whole else none, fun k => if k.1 < 3 ∧ k.2 = [] then some (b, 2 * k.1) else none⟩
theorem Forest.fresh {w : World} {b : Nat} (h : Blk w b 68 #[.slice none 0 0, .map none, .slice none 0 0, .map none, .slice none 0 0, .map none]) : Forest w b (freshLay b) (fun _ => []) 0 where
  lt := fun j r e => by
    unfold freshLay at e
    simp only at e
    split at e
    · rename_i e2; rw [e2]; exact h.lt
    · cases e
  root := fun t ht => by
    unfold freshLay
    simp only
    rw [if_pos ⟨ht, trivial⟩]
  three := fun k a e => by
    unfold freshLay at e
    simp only at e
    split at e
    · rename_i e2; exact e2.1
    · cases e
  far := fun k g o e hk => by
    unfold freshLay at e
    simp only at e
    split at e
    · rename_i e2; exact absurd e2.2 hk
    · cases e
  up := fun k c a e => by
    unfold freshLay at e
    simp only at e
    split at e
    · rename_i e2; exact absurd e2.2 (Key.kid_far k c)
    · cases e
  nix := fun _ _ => rfl
  node := fun k g o e => by
    unfold freshLay at e
    simp only at e
    split at e
    · rename_i e2
      injection e with e
      injection e with e3 e4
      subst e3 e4
      obtain ⟨t, p⟩ := k
      obtain ⟨ht, rfl⟩ : t < 3 ∧ p = [] := e2
      have hc : ∀ t, t < 3 → w.cell? ⟨b, 2 * t, Option.none⟩ = some (.slice Option.none 0 0) ∧ w.cell? ⟨b, 2 * t + 1, Option.none⟩ = some (.map Option.none) := fun t ht => by
        rw [h.cell, h.cell]
        rcases t with _ | _ | _ | t
        · exact ⟨rfl, rfl⟩
        · exact ⟨rfl, rfl⟩
        · exact ⟨rfl, rfl⟩
        · omega
      refine ⟨_, _, ?_, (hc t ht).1, (hc t ht).2, h.frozen _, h.frozen _, ⟨rfl, .inl ⟨rfl, rfl⟩⟩, fun r e => by simp [Value.ownBlock] at e, Nat.le_refl _, .inl ⟨rfl, fun c => ?_⟩⟩
      · unfold freshLay
        simp only [if_true]
        rfl
      · unfold freshLay
        simp only
        rw [if_neg (fun h => Key.kid_far _ c h.2)]
    · cases e

set_option maxHeartbeats 4000000 in
set_option maxRecDepth 100000 in
theorem tnew_none (w : World) (A : Option Addr) (n ca : Nat) (L : List Nm) (ha : RowsSee w A n L) (hn : n ≤ 140737488355328) (hr : rightB L = false) :
    Calls Try.prog 21 #[.slice A n ca] w fun e w' => e = .returned (.pointer none) ∧ w' = w := by
  have hla := ha.len
  have hcont := contLong_any w A n ca L ha hn
  by_cases hbig : 512 < n
  · have d1 : decide ((512 : Int) < (n : Int)) = true := by simp; omega
    clear ha hla hcont hr
    go_enter Try.func21, Try.ntmps21
    go_wp2
    go_ret
    exact ⟨rfl, rfl⟩
  · have d1 : decide ((512 : Int) < (n : Int)) = false := by simp; omega
    have hany : (L.any fun x => decide (16 < List.length x)) = true := by
      cases e : L.any fun x => decide (16 < List.length x) with
      | true => rfl
      | false => rw [rightB_any (by omega) e] at hr; cases hr
    rw [hany] at hcont
    have HC := Lib.hid hcont
    clear ha hla hcont hr hany
    go_enter Try.func21, Try.ntmps21
    go_wp2_with fail
    refine HC.out.mono ?_
    rintro e w2 ⟨rfl, rfl⟩
    go_wp2
    go_ret
    exact ⟨rfl, rfl⟩

set_option maxHeartbeats 4000000 in
set_option maxRecDepth 100000 in
theorem tnew_any (w : World) (A : Option Addr) (n ca : Nat) (L : List Nm) (ha : RowsSee w A n L) (hr : rightB L = true) :
    Calls Try.prog 21 #[.slice A n ca] w fun e w' => ∃ b, e = .returned (.pointer (some ⟨b, 0, none⟩)) ∧ Below w.heap.size w w' ∧ TrieAt w' b w.heap.size L := by
  have hla := ha.len
  have hn : n ≤ 512 := by
    rcases Nat.lt_or_ge 512 n with h | h
    · rw [rightB_long (by omega)] at hr; cases hr
    · exact h
  have hshort : ∀ (k : Nat) (x : Nm), L[k]? = some x → x.length ≤ 16 := fun k x hx => by
    rcases Nat.lt_or_ge 16 x.length with h | h
    · rw [rightB_wide hx h] at hr; cases hr
    · exact h
  have hcont := contLong_any w A n ca L ha (by omega)
  have hany : (L.any fun x => decide (16 < List.length x)) = false := by
    cases e : L.any fun x => decide (16 < List.length x) with
    | false => rfl
    | true => rw [rightB_not e] at hr; cases hr
  rw [hany] at hcont
  have d1 : decide ((512 : Int) < (n : Int)) = false := by simp; omega
  have HC := Lib.hid hcont
  have HA := Lib.hid ha
  have HLA := Lib.hid hla
  have HS := Lib.hid hshort
  clear ha hla hcont hr hany hshort
  go_enter Try.func21, Try.ntmps21
  go_wp2_with fail
  refine HC.out.mono ?_
  rintro e w2 ⟨rfl, rfl⟩
  go_wp2
  have hFr := Forest.fresh (Blk.new w2 68 #[.slice none 0 0, .map none, .slice none 0 0, .map none, .slice none 0 0, .map none])
  have HFR := Lib.hid hFr
  clear hFr
  go_loopw [17] (fun i wr => ∃ (k : Nat) (T : Lay) (X : Key → List Int), k ≤ n ∧ i = .int .i64 k ∧ Forest wr w2.heap.size T X (700 * k) ∧ (∀ j, T.foot j → w2.heap.size ≤ j) ∧ Below w2.heap.size w2 wr ∧ HoldsX X L k) (fun i _ => n - (intOf i).toNat)
  case atStart =>
    refine ⟨0, _, _, by omega, rfl, HFR.out, ?_, (Below.refl _ w2).alloc (Nat.le_refl _) _, HoldsX.zero L⟩
    rintro j ⟨r, e⟩
    unfold freshLay at e
    simp only at e
    split at e
    · omega
    · cases e
  case round =>
    obtain ⟨k, T, X, hk, rfl, hF, hft, hB, hX⟩ := hrel
    rcases Nat.lt_or_ge k n with hlt | hge
    · have hlt' : (k : Int) < (n : Int) := by omega
      have p0 : (0 : Int) ≤ (k : Int) := by omega
      obtain ⟨x, hx⟩ : ∃ x, L[k]? = some x := ⟨_, List.getElem?_eq_getElem (by rw [HLA.out]; exact hlt)⟩
      obtain ⟨pa, Ax, cx, rfl, ea, ecx, ex⟩ := (HA.out.below hB).at_ k x hx
      have hadd := tadd_any hF Ax x.length cx x rfl (HS.out k x hx) ecx (fun w' hk => (HA.out.below (hB.trans (hk.toBelow hB.size hft))).at_ k x hx |> fun ⟨_, _, _, e1, e2, _, e3⟩ => by
        injection e1 with e1
        subst e1
        have e4 := ((hk.toBelow hB.size hft).cell (p := pa.add k) ?_).trans ea
        · rw [e2] at e4
          injection e4 with e4
          injection e4 with e4
          subst e4
          exact e3
        · obtain ⟨_, _, _, q1, q2, _, _⟩ := HA.out.at_ k x hx
          injection q1 with q1
          subst q1
          exact World.block_lt_of_cell? w2 _ q2) k (by omega)
      have hs5 : IntKind.i64.wrap ((k : Int) + 1) = (k : Int) + 1 := IntWalk.i64_in _ (by omega)
      have HADD := Lib.hid hadd
      have HX := Lib.hid (hX.step hx)
      have HB := Lib.hid hB
      have HFT := Lib.hid hft
      clear hF hft hB hX hx ex ecx hadd
      go_wp2_with fail
      refine HADD.out.mono ?_
      rintro e w3 ⟨⟨v, rfl⟩, T3, q1, q2, q3⟩
      have Q1 := Lib.hid q1
      have Q2 := Lib.hid q2
      have Q3 := Lib.hid q3
      clear q1 q2 q3
      go_wp2
      go_roundw
      case rel =>
        refine ⟨k + 1, T3, _, by omega, by go_num, Q1.out.more (by omega), fun j hj => ?_, HB.out.trans (Q3.out.toBelow HB.out.size HFT.out), HX.out⟩
        obtain ⟨r, e⟩ := hj
        rcases Q2.out.new j r e with e | e
        · exact HFT.out j ⟨r, e⟩
        · have := HB.out.size
          omega
      case measure => simp [intOf]; omega
    · obtain rfl : k = n := by omega
      have hlz : ¬ ((k : Int) < (k : Int)) := by omega
      have hXL := hX
      rw [← HLA.out] at hXL
      have HF := Lib.hid hF
      have HX := Lib.hid hXL
      have HB := Lib.hid hB
      have HFT := Lib.hid hft
      clear hF hX hB hft hXL
      go_wp2
      go_ret
      exact ⟨_, rfl, HB.out, T, X, _, HF.out, by omega, HFT.out, HX.out⟩
end Go.Proofs.Ytjnbilcanfhkjaa
