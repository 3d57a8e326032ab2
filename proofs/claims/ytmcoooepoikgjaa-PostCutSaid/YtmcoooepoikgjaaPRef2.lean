/- The document's last, past, SameSpots, Same. -/
import Derived.Test.YtmcoooepoikgjaaPRef1
import Derived.Test.YtmcoooepoikgjaaLRef2
import Derived.Laws.StructEq
namespace Go.Proofs.Ytmcoooepoikgjaa
open Go.RowKit Go.Maps Go.WideMaps
set_option linter.unusedSimpArgs false

theorem pAt_eq {l : List Pst} {i : Nat} {x : Pst} (h : l[i]? = some x) : pAt l i = x := by
  unfold pAt
  rw [List.getD_eq_getElem?_getD, h]
  rfl
set_option maxHeartbeats 4000000 in
set_option maxRecDepth 100000 in
theorem r9last_any (w : World) (A : Option Addr) (n c : Nat) (l : List Pst) (h : PostsSee w A n l) (i : Nat) (hi : i ≤ n) :
    Calls Try.prog 44 #[.slice A n c, .int .i64 i] w fun e w' => e = .returned (.int .i64 (lastD l i)) ∧ w' = w := by
  have hn63 : n ≤ 9223372036854775807 := h.fit
  by_cases h0 : i = 0
  · subst h0
    clear h
    go_enter Try.func44, Try.ntmps44
    go_wp2
    go_ret
    exact ⟨rfl, rfl⟩
  · have d0 : ((i : Int) == 0) = false := by simpa using h0
    obtain ⟨k, hk⟩ : ∃ k, i = k + 1 := ⟨i - 1, by omega⟩
    have hw : IntKind.i64.wrap ((i : Int) - 1) = (k : Int) := by rw [show (i : Int) - 1 = (k : Int) by omega]; exact IntWalk.i64_in _ (by omega)
    have p0 : (0 : Int) ≤ (k : Int) := by omega
    have p1 : (k : Int) < (n : Int) := by omega
    obtain ⟨ad, x, B, cB, rfl, hx, -, a0, -, -, -⟩ := h.at k (by omega)
    have hl : lastD l i = x.1 := by unfold lastD; rw [if_neg h0, hk, Nat.add_sub_cancel, pAt_eq hx]
    rw [hl]
    clear h hk hl hx
    go_enter Try.func44, Try.ntmps44
    go_wp2
    go_ret
    exact ⟨rfl, rfl⟩
def pastUp (b : List UInt8) (n : Nat) : Nat → Nat
  | 0 => n
  | k + 1 => past1 b (pastUp b n k)
theorem past1_le {b : List UInt8} {n : Nat} (h : n ≤ b.length) : past1 b n ≤ b.length := by
  unfold past1
  split
  · rename_i h1
    have := (getL_inv (l := b.drop n) (v := (getL (b.drop n)).1) (k := (getL (b.drop n)).2.1) (by rw [← h1])).2.2.1
    rw [List.length_drop] at this
    omega
  · exact h
theorem pastUp_le {b : List UInt8} {n : Nat} (h : n ≤ b.length) (k : Nat) : pastUp b n k ≤ b.length := by
  induction k with
  | zero => exact h
  | succ k ih => exact past1_le ih

set_option maxHeartbeats 4000000 in
set_option maxRecDepth 100000 in
theorem r9past_any (w : World) (A : Option Addr) (n c : Nat) (b : Nm) (h : BytesIn w A n b) (hc : n ≤ c) (p : Nat) (hp : p ≤ n) :
    Calls Try.prog 34 #[.slice A n c, .int .i64 p] w fun e w' => e = .returned (.int .i64 (pastB b p : Nat)) ∧ w' = w := by
  have hn63 : n ≤ 9223372036854775807 := h.1
  have hbl : b.length = n := by have := h.2.1.len; simpa using this
  have HB := Lib.hid h
  have HBL := Lib.hid hbl
  clear h hbl
  go_enter Try.func34, Try.ntmps34
  go_wp2
  go_loopw [1, 5] (fun v i wr => ∃ k : Nat, k ≤ 2 ∧ i = .int .i64 k ∧ v = .int .i64 (pastUp b p k : Nat) ∧ wr = w) (fun _ i _ => 2 - (intOf i).toNat)
  case atStart => exact ⟨0, by omega, rfl, rfl, rfl⟩
  case round =>
    obtain ⟨k, hk, rfl, rfl, rfl⟩ := hrel
    rcases Nat.lt_or_ge k 2 with hlt | hge
    · have hlt' : (k : Int) < 2 := by omega
      have d1 : decide ((k : Int) < 2) = true := decide_eq_true hlt'
      have hw5 : IntKind.i64.wrap ((k : Int) + 1) = (k : Int) + 1 := IntWalk.i64_in _ (by omega)
      have hle := pastUp_le (b := b) (n := p) (by rw [HBL.out]; exact hp) k
      obtain ⟨m, hm⟩ : ∃ m, m = pastUp b p k := ⟨_, rfl⟩
      have hnx : pastUp b p (k + 1) = past1 b m := by rw [hm]; rfl
      rw [← hm] at hle ⊢
      rw [HBL.out] at hle
      have HNX := Lib.hid hnx
      clear hm hnx
      have hsl := fun w => slice_from w A n c m hle
      have hin := HB.out.sub hc m n hle (Nat.le_refl _)
      rw [List.take_of_length_le (by rw [HBL.out]; exact Nat.le_refl _)] at hin
      have HC := Lib.hid (r3Get_any wr (cutAddr A m c) (n - m) (c - m) (b.drop m) hin)
      unfold gotV at HC
      have hkl : (getL (b.drop m)).2.2 = 0 → (getL (b.drop m)).2.1 ≤ n - m := fun h1 => by
        have := (getL_inv (l := b.drop m) (v := (getL (b.drop m)).1) (k := (getL (b.drop m)).2.1) (by rw [← h1])).2.2.1
        rw [List.length_drop, HBL.out] at this
        exact this
      obtain ⟨G, hG⟩ : ∃ G, G = getL (b.drop m) := ⟨_, rfl⟩
      rw [← hG] at HC hkl
      have hp1 : past1 b m = if G.2.2 = 0 then m + G.2.1 else m := by rw [hG]; rfl
      have HP1 := Lib.hid hp1
      obtain ⟨G1, G2, G3⟩ := G
      simp only at HC hkl
      clear hin hG hp1
      go_wp2_with fail
      refine HC.out.mono ?_
      rintro e w2 ⟨rfl, hw2⟩
      obtain rfl := hw2
      by_cases hz : G3 = 0
      · have d2 : (G3 == 0) = true := by simpa using hz
        have hz2 := hkl hz
        have hw6 : IntKind.i64.wrap ((m : Int) + (G2 : Int)) = ((m + G2 : Nat) : Int) := by rw [IntWalk.i64_in _ (by omega)]; push_cast; rfl
        clear hkl
        go_wp2
        go_roundw
        case rel => exact ⟨k + 1, by omega, by go_num, by rw [HNX.out, HP1.out]; (try simp only); rw [if_pos hz]; go_num, by first | rfl | trivial⟩
        case measure => simp [intOf]; omega
      · have d2 : (G3 == 0) = false := by simpa using hz
        clear hkl
        go_wp2
        go_roundw
        case rel => exact ⟨k + 1, by omega, by go_num, by rw [HNX.out, HP1.out]; (try simp only); rw [if_neg hz], by first | rfl | trivial⟩
        case measure => simp [intOf]; omega
    · obtain rfl : k = 2 := by omega
      go_wp2
      go_ret
      exact ⟨rfl, rfl⟩
theorem spot_fields : ∃ f g : Field, Try.prog.fieldsOf 40 = #[f, g] ∧ f.name ≠ "_" ∧ g.name ≠ "_" ∧ f.type = 2 ∧ g.type = 2 ∧ f.offset = 0 ∧ g.offset = 1 :=
  ⟨_, _, rfl, by decide, by decide, rfl, rfl, rfl, rfl⟩
theorem neqSpot (y1 y2 x1 x2 : Int) {r : Bool} (h : ((y1 == x1) && (y2 == x2)) = r) (w : World) : (binOp .neq 40 (.agg #[.int .i64 y1, .int .i64 y2]) (.agg #[.int .i64 x1, .int .i64 x2])).run Try.prog w = .ok (.bool (!r)) w := by
  subst h
  obtain ⟨f, g, h1, h2, h3, h4, h5, h6, h7⟩ := spot_fields
  rw [run_neq_struct, run_equalIn_struct w 9999 40 _ _ rfl (by kernel_rfl), h1]
  have he : ∀ a b : Int, ∀ w : World, (Op.equalIn 9999 2 (.int .i64 a) (.int .i64 b)).run Try.prog w = .ok (a == b) w := fun a b w => run_equalIn_int w 9998 2 .i64 .i64 a b Try.underlying2
  simp only [Op.eqFields, h4, h5, h6, h7, if_pos h2, if_pos h3]
  simp [part, he]
  cases hA : (y1 == x1) <;> cases hB : (y2 == x2) <;> simp_all

set_option maxHeartbeats 4000000 in
set_option maxRecDepth 100000 in
theorem r9SameSpots_any (w : World) (A B : Option Addr) (n m ca cb : Nat) (a b : List (Int × Int)) (ha : PairsIn w A n a) (hb : PairsIn w B m b) :
    Calls Try.prog 36 #[.slice A n ca, .slice B m cb] w fun e w' => e = .returned (.bool (decide (a = b))) ∧ ∃ q, w' = w.drewN q := by
  have HA := Lib.hid ha
  have HB := Lib.hid hb
  have hn63 : n ≤ 9223372036854775807 := ha.fit
  by_cases hnm : n = m
  · subst hnm
    have d0 : (((n : Nat) : Int) != ((n : Nat) : Int)) = false := by simp
    obtain ⟨r, hr⟩ : ∃ r, r = decide (a = b) := ⟨_, rfl⟩
    rw [← hr]
    have HR := Lib.hid hr
    clear ha hb hr
    go_enter Try.func36, Try.ntmps36
    go_wp2
    go_loopw [5] (fun i wr => ∃ k q : Nat, k ≤ n ∧ i = .int .i64 k ∧ a.take k = b.take k ∧ wr = w.drewN q) (fun i _ => n - (intOf i).toNat)
    case atStart => exact ⟨0, 0, by omega, rfl, by simp, rfl⟩
    case round =>
      obtain ⟨k, q, hk, rfl, htk, rfl⟩ := hrel
      have HTK := Lib.hid htk
      clear htk
      rcases Nat.lt_or_ge k n with hlt | hge
      · have hlt' : (k : Int) < (n : Int) := by omega
        have p0 : (0 : Int) ≤ (k : Int) := by omega
        obtain ⟨pa, x, rfl, hx, a0, a1, -, -⟩ := HA.out.at k hlt
        obtain ⟨pb, y, rfl, hy, c0, c1, -, -⟩ := HB.out.at k hlt
        obtain ⟨x1, x2⟩ := x
        obtain ⟨y1, y2⟩ := y
        simp only at a0 a1 c0 c1
        have a0' : ∀ q, (w.drewN q).cell? (pa.add (k * 2)) = some (.int .i64 x1) := fun _ => a0
        have a1' : ∀ q, (w.drewN q).cell? ⟨(pa.add (k * 2)).block, (pa.add (k * 2)).off + 1, none⟩ = some (.int .i64 x2) := fun _ => a1
        have c0' : ∀ q, (w.drewN q).cell? (pb.add (k * 2)) = some (.int .i64 y1) := fun _ => c0
        have c1' : ∀ q, (w.drewN q).cell? ⟨(pb.add (k * 2)).block, (pb.add (k * 2)).off + 1, none⟩ = some (.int .i64 y2) := fun _ => c1
        have hw5 : IntKind.i64.wrap ((k : Int) + 1) = (k : Int) + 1 := IntWalk.i64_in _ (by omega)
        have ta : a.take (k + 1) = a.take k ++ [(x1, x2)] := by rw [List.take_add_one, hx]; rfl
        have tb : b.take (k + 1) = b.take k ++ [(y1, y2)] := by rw [List.take_add_one, hy]; rfl
        have TA := Lib.hid ta
        have TB := Lib.hid tb
        clear a0 a1 c0 c1 ta tb
        cases hd : ((x1 == y1) && (x2 == y2)) with
        | true =>
          have heq := neqSpot x1 x2 y1 y2 hd
          simp only [Bool.and_eq_true, beq_iff_eq] at hd
          obtain ⟨rfl, rfl⟩ := hd
          clear hx hy
          go_wp2_with fail
          go_quiet (fail)
          go_wp2
          go_roundw
          case rel => exact ⟨k + 1, _, by omega, by go_num, by rw [TA.out, TB.out, HTK.out], rfl⟩
          case measure => simp [intOf]; omega
        | false =>
          have heq := neqSpot x1 x2 y1 y2 hd
          obtain rfl : r = false := by
            rw [HR.out]
            refine decide_eq_false fun e => ?_
            subst e
            rw [hx] at hy
            obtain ⟨rfl, rfl⟩ := Prod.mk.inj (Option.some.inj hy)
            simp at hd
          clear hx hy
          go_wp2_with fail
          go_quiet (fail)
          go_wp2
          go_ret
          exact ⟨rfl, q + nq, by rw [World.drewN_drewN]⟩
      · obtain rfl : k = n := by omega
        have hlz : ¬ ((k : Int) < (k : Int)) := by omega
        obtain rfl : r = true := by
          have h1 := HTK.out
          rw [List.take_of_length_le (by rw [HA.out.len]; exact Nat.le_refl _), List.take_of_length_le (by rw [HB.out.len]; exact Nat.le_refl _)] at h1
          rw [HR.out, h1]
          simp
        go_wp2
        go_ret
        exact ⟨rfl, _, rfl⟩
  · have d0 : (((n : Nat) : Int) != ((m : Nat) : Int)) = true := by simp; omega
    have hr : decide (a = b) = false := decide_eq_false fun e => hnm (by rw [← ha.len, ← hb.len, e])
    rw [hr]
    clear ha hb hr
    go_enter Try.func36, Try.ntmps36
    go_wp2
    go_ret
    exact ⟨rfl, 0, rfl⟩
end Go.Proofs.Ytmcoooepoikgjaa
