/- The document's pos, at: what they answer of any spots. The document's last, past, SameSpots, Same. The document's Check. The document's Check: its walk. -/
import Derived.Test.YthmjanhdjchdbaaKPosts
import Derived.Test.YthmjanhdjchdbaaKInts
import Derived.Test.YthmjanhdjchdbaaPMath
import Derived.Deep.QuietTactic
import Derived.BigQuiet
import Derived.Test.YthmjanhdjchdbaaLRef2
import Derived.Laws.StructEq
namespace Go.Proofs.Ythmjanhdjchdbaa
open Go.RowKit Go.Maps Go.WideMaps
set_option linter.unusedSimpArgs false

theorem int64Info : (Try.prog.info? 2).map (fun i => (i.zero, i.size, i.bytes)) = some (some (.int .i64 0), 1, 8) := by kernel_rfl

set_option maxHeartbeats 4000000 in
set_option maxRecDepth 100000 in
theorem r9pos_any (w : World) (A : Option Addr) (n c : Nat) (s : List (Int × Int)) (hs : PairsIn w A n s) (hn : n ≤ 1099511627776) :
    Calls Try.prog 54 #[.slice A n c] w fun e w' => ∃ v, e = .returned v ∧ w'.ownsRow w.heap.size 2 1 v n ((poss s).map i64V) ∧ Below w.heap.size w w' := by
  obtain ⟨i0, hi, hz0, hz1, hz2⟩ := info_parts int64Info
  have HS := Lib.hid hs
  have HLEN := Lib.hid hs.len
  obtain ⟨l, hl⟩ : ∃ l, l = poss s := ⟨_, rfl⟩
  rw [← hl]
  have HL := Lib.hid hl
  have hll : l.length = n := by rw [hl]; simp [poss, hs.len]
  have HLL := Lib.hid hll
  clear hs hl hll
  go_enter Try.func54, Try.ntmps54
  go_wp2
  go_loopw [3, 4] (fun v i wr => ∃ k : Nat, k ≤ n ∧ i = .int .i64 k ∧ wr.ownsRow w.heap.size 2 1 v k ((l.take k).map i64V) ∧ Below w.heap.size w wr) (fun _ i _ => n - (intOf i).toNat)
  case atStart => exact ⟨0, by omega, rfl, ⟨rfl, .inl ⟨rfl, rfl⟩⟩, Below.refl _ _⟩
  case round =>
    obtain ⟨k, hk, rfl, hO, hB⟩ := hrel
    have HO := Lib.hid hO
    have HB := Lib.hid hB
    clear hO hB
    obtain ⟨Av, cv, hv⟩ := own_slice HO.out
    subst hv
    rcases Nat.lt_or_ge k n with hlt | hge
    · have hlt' : (k : Int) < (n : Int) := by omega
      have p0 : (0 : Int) ≤ (k : Int) := by omega
      have hw5 : IntKind.i64.wrap ((k : Int) + 1) = (k : Int) + 1 := IntWalk.i64_in _ (by omega)
      obtain ⟨pa, x, rfl, hx, a0, a1, -, -⟩ := (HS.out.below HB.out).at k hlt
      obtain ⟨x1, x2⟩ := x
      simp only at a0 a1
      have a0' : ∀ q, (wr.drewN q).cell? (pa.add (k * 2)) = some (.int .i64 x1) := fun _ => a0
      have a1' : ∀ q, (wr.drewN q).cell? ⟨(pa.add (k * 2)).block, (pa.add (k * 2)).off + 1, none⟩ = some (.int .i64 x2) := fun _ => a1
      have htk : l.take (k + 1) = l.take k ++ [x1] := by
        rw [List.take_add_one, HL.out]
        simp [poss, hx]
      have HTK := Lib.hid htk
      clear hx htk
      go_wp2_with (at_builtin; refine wpList_append_src _ rfl (.tmp 11) (.tmp 17) 82 rfl w.heap.size 2 i0 (.int .i64 0) 8 Try.underlying82 hi hz0 hz1 hz2 rfl _ k _ rfl (World.ownsRow.alloc HO.out _) _ 1 1 _ rfl (one_int_src wr 2 x1) (i64V_one [x1]) (by unfold maxLen; omega) (by omega) (by have := HB.out.size; simp; omega) ?_; intro v3 w3 hown hgrow _; have HO3 := Lib.hid hown; have HB3 := Lib.hid ((HB.out.alloc HB.out.size _).grown hgrow (by have := HB.out.size; simp; omega) (fun g hg => (HO.out.lt g hg).1)); clear hown hgrow)
      go_roundw
      case rel =>
        refine ⟨k + 1, by omega, by go_num, ?_, HB3.out⟩
        rw [HTK.out, List.map_append]
        exact HO3.out
      case measure => simp [intOf]; omega
    · obtain rfl : k = n := by omega
      have hlz : ¬ ((k : Int) < (k : Int)) := by omega
      have hall : l.take k = l := List.take_of_length_le (by rw [HLL.out]; exact Nat.le_refl _)
      rw [hall] at HO
      go_wp2
      go_ret
      exact ⟨_, rfl, HO.out, HB.out⟩

set_option maxHeartbeats 4000000 in
set_option maxRecDepth 100000 in
theorem r9at_any (w : World) (A : Option Addr) (n c : Nat) (s : List (Int × Int)) (hs : PairsIn w A n s) (hn : n ≤ 1099511627776) :
    Calls Try.prog 55 #[.slice A n c] w fun e w' => ∃ v, e = .returned v ∧ w'.ownsRow w.heap.size 2 1 v n ((atss s).map i64V) ∧ Below w.heap.size w w' := by
  obtain ⟨i0, hi, hz0, hz1, hz2⟩ := info_parts int64Info
  have HS := Lib.hid hs
  have HLEN := Lib.hid hs.len
  obtain ⟨l, hl⟩ : ∃ l, l = atss s := ⟨_, rfl⟩
  rw [← hl]
  have HL := Lib.hid hl
  have hll : l.length = n := by rw [hl]; simp [atss, hs.len]
  have HLL := Lib.hid hll
  clear hs hl hll
  go_enter Try.func55, Try.ntmps55
  go_wp2
  go_loopw [3, 4] (fun v i wr => ∃ k : Nat, k ≤ n ∧ i = .int .i64 k ∧ wr.ownsRow w.heap.size 2 1 v k ((l.take k).map i64V) ∧ Below w.heap.size w wr) (fun _ i _ => n - (intOf i).toNat)
  case atStart => exact ⟨0, by omega, rfl, ⟨rfl, .inl ⟨rfl, rfl⟩⟩, Below.refl _ _⟩
  case round =>
    obtain ⟨k, hk, rfl, hO, hB⟩ := hrel
    have HO := Lib.hid hO
    have HB := Lib.hid hB
    clear hO hB
    obtain ⟨Av, cv, hv⟩ := own_slice HO.out
    subst hv
    rcases Nat.lt_or_ge k n with hlt | hge
    · have hlt' : (k : Int) < (n : Int) := by omega
      have p0 : (0 : Int) ≤ (k : Int) := by omega
      have hw5 : IntKind.i64.wrap ((k : Int) + 1) = (k : Int) + 1 := IntWalk.i64_in _ (by omega)
      obtain ⟨pa, x, rfl, hx, a0, a1, -, -⟩ := (HS.out.below HB.out).at k hlt
      obtain ⟨x1, x2⟩ := x
      simp only at a0 a1
      have a0' : ∀ q, (wr.drewN q).cell? (pa.add (k * 2)) = some (.int .i64 x1) := fun _ => a0
      have a1' : ∀ q, (wr.drewN q).cell? ⟨(pa.add (k * 2)).block, (pa.add (k * 2)).off + 1, none⟩ = some (.int .i64 x2) := fun _ => a1
      have htk : l.take (k + 1) = l.take k ++ [x2] := by
        rw [List.take_add_one, HL.out]
        simp [atss, hx]
      have HTK := Lib.hid htk
      clear hx htk
      go_wp2_with (at_builtin; refine wpList_append_src _ rfl (.tmp 11) (.tmp 17) 82 rfl w.heap.size 2 i0 (.int .i64 0) 8 Try.underlying82 hi hz0 hz1 hz2 rfl _ k _ rfl (World.ownsRow.alloc HO.out _) _ 1 1 _ rfl (one_int_src wr 2 x2) (i64V_one [x2]) (by unfold maxLen; omega) (by omega) (by have := HB.out.size; simp; omega) ?_; intro v3 w3 hown hgrow _; have HO3 := Lib.hid hown; have HB3 := Lib.hid ((HB.out.alloc HB.out.size _).grown hgrow (by have := HB.out.size; simp; omega) (fun g hg => (HO.out.lt g hg).1)); clear hown hgrow)
      go_roundw
      case rel =>
        refine ⟨k + 1, by omega, by go_num, ?_, HB3.out⟩
        rw [HTK.out, List.map_append]
        exact HO3.out
      case measure => simp [intOf]; omega
    · obtain rfl : k = n := by omega
      have hlz : ¬ ((k : Int) < (k : Int)) := by omega
      have hall : l.take k = l := List.take_of_length_le (by rw [HLL.out]; exact Nat.le_refl _)
      rw [hall] at HO
      go_wp2
      go_ret
      exact ⟨_, rfl, HO.out, HB.out⟩
end Go.Proofs.Ythmjanhdjchdbaa
namespace Go.Proofs.Ythmjanhdjchdbaa
open Go.RowKit Go.Maps Go.WideMaps
set_option linter.unusedSimpArgs false

theorem pAt_eq {l : List Pst} {i : Nat} {x : Pst} (h : l[i]? = some x) : pAt l i = x := by
  unfold pAt
  rw [List.getD_eq_getElem?_getD, h]
  rfl
set_option maxHeartbeats 4000000 in
set_option maxRecDepth 100000 in
theorem r9last_any (w : World) (A : Option Addr) (n c : Nat) (l : List Pst) (h : PostsSee w A n l) (i : Nat) (hi : i ≤ n) :
    Calls Try.prog 52 #[.slice A n c, .int .i64 i] w fun e w' => e = .returned (.int .i64 (lastD l i)) ∧ w' = w := by
  have hn63 : n ≤ 9223372036854775807 := h.fit
  by_cases h0 : i = 0
  · subst h0
    clear h
    go_enter Try.func52, Try.ntmps52
    go_wp2
    go_ret
    exact ⟨rfl, rfl⟩
  · have d0 : ((i : Int) == 0) = false := by simpa using h0
    obtain ⟨k, hk⟩ : ∃ k, i = k + 1 := ⟨i - 1, by omega⟩
    have hw : IntKind.i64.wrap ((i : Int) - 1) = (k : Int) := by rw [show (i : Int) - 1 = (k : Int) by omega]; exact IntWalk.i64_in _ (by omega)
    have p0 : (0 : Int) ≤ (k : Int) := by omega
    have p1 : (k : Int) < (n : Int) := by omega
    obtain ⟨ad, x, B, cB, rfl, hx, -, a0, -, -, -⟩ := h.at k (by omega)
    have hl : lastD l i = x.1 := by unfold lastD; rw [if_neg h0, hk, Nat.add_sub_cancel, pAt_eq hx]
    rw [hl]
    clear h hk hl hx
    go_enter Try.func52, Try.ntmps52
    go_wp2
    go_ret
    exact ⟨rfl, rfl⟩
def pastUp (b : List UInt8) (n : Nat) : Nat → Nat
  | 0 => n
  | k + 1 => past1 b (pastUp b n k)
theorem past1_le {b : List UInt8} {n : Nat} (h : n ≤ b.length) : past1 b n ≤ b.length := by
  unfold past1
  split
  · rename_i h1
    have := (getL_inv (l := b.drop n) (v := (getL (b.drop n)).1) (k := (getL (b.drop n)).2.1) (by rw [← h1])).2.2.1
    rw [List.length_drop] at this
    omega
  · exact h
theorem pastUp_le {b : List UInt8} {n : Nat} (h : n ≤ b.length) (k : Nat) : pastUp b n k ≤ b.length := by
  induction k with
  | zero => exact h
  | succ k ih => exact past1_le ih

set_option maxHeartbeats 4000000 in
set_option maxRecDepth 100000 in
theorem r9past_any (w : World) (A : Option Addr) (n c : Nat) (b : Nm) (h : BytesIn w A n b) (hc : n ≤ c) (p : Nat) (hp : p ≤ n) :
    Calls Try.prog 44 #[.slice A n c, .int .i64 p] w fun e w' => e = .returned (.int .i64 (pastB b p : Nat)) ∧ w' = w := by
  have hn63 : n ≤ 9223372036854775807 := h.1
  have hbl : b.length = n := by have := h.2.1.len; simpa using this
  have HB := Lib.hid h
  have HBL := Lib.hid hbl
  clear h hbl
  go_enter Try.func44, Try.ntmps44
  go_wp2
  go_loopw [1, 5] (fun v i wr => ∃ k : Nat, k ≤ 2 ∧ i = .int .i64 k ∧ v = .int .i64 (pastUp b p k : Nat) ∧ wr = w) (fun _ i _ => 2 - (intOf i).toNat)
  case atStart => exact ⟨0, by omega, rfl, rfl, rfl⟩
  case round =>
    obtain ⟨k, hk, rfl, rfl, rfl⟩ := hrel
    rcases Nat.lt_or_ge k 2 with hlt | hge
    · have hlt' : (k : Int) < 2 := by omega
      have d1 : decide ((k : Int) < 2) = true := decide_eq_true hlt'
      have hw5 : IntKind.i64.wrap ((k : Int) + 1) = (k : Int) + 1 := IntWalk.i64_in _ (by omega)
      have hle := pastUp_le (b := b) (n := p) (by rw [HBL.out]; exact hp) k
      obtain ⟨m, hm⟩ : ∃ m, m = pastUp b p k := ⟨_, rfl⟩
      have hnx : pastUp b p (k + 1) = past1 b m := by rw [hm]; rfl
      rw [← hm] at hle ⊢
      rw [HBL.out] at hle
      have HNX := Lib.hid hnx
      clear hm hnx
      have hsl := fun w => slice_from w A n c m hle
      have hin := HB.out.sub hc m n hle (Nat.le_refl _)
      rw [List.take_of_length_le (by rw [HBL.out]; exact Nat.le_refl _)] at hin
      have HC := Lib.hid (r3Get_any wr (cutAddr A m c) (n - m) (c - m) (b.drop m) hin)
      unfold gotV at HC
      have hkl : (getL (b.drop m)).2.2 = 0 → (getL (b.drop m)).2.1 ≤ n - m := fun h1 => by
        have := (getL_inv (l := b.drop m) (v := (getL (b.drop m)).1) (k := (getL (b.drop m)).2.1) (by rw [← h1])).2.2.1
        rw [List.length_drop, HBL.out] at this
        exact this
      obtain ⟨G, hG⟩ : ∃ G, G = getL (b.drop m) := ⟨_, rfl⟩
      rw [← hG] at HC hkl
      have hp1 : past1 b m = if G.2.2 = 0 then m + G.2.1 else m := by rw [hG]; rfl
      have HP1 := Lib.hid hp1
      obtain ⟨G1, G2, G3⟩ := G
      simp only at HC hkl
      clear hin hG hp1
      go_wp2_with fail
      refine HC.out.mono ?_
      rintro e w2 ⟨rfl, hw2⟩
      obtain rfl := hw2
      by_cases hz : G3 = 0
      · have d2 : (G3 == 0) = true := by simpa using hz
        have hz2 := hkl hz
        have hw6 : IntKind.i64.wrap ((m : Int) + (G2 : Int)) = ((m + G2 : Nat) : Int) := by rw [IntWalk.i64_in _ (by omega)]; push_cast; rfl
        clear hkl
        go_wp2
        go_roundw
        case rel => exact ⟨k + 1, by omega, by go_num, by rw [HNX.out, HP1.out]; (try simp only); rw [if_pos hz]; go_num, by first | rfl | trivial⟩
        case measure => simp [intOf]; omega
      · have d2 : (G3 == 0) = false := by simpa using hz
        clear hkl
        go_wp2
        go_roundw
        case rel => exact ⟨k + 1, by omega, by go_num, by rw [HNX.out, HP1.out]; (try simp only); rw [if_neg hz], by first | rfl | trivial⟩
        case measure => simp [intOf]; omega
    · obtain rfl : k = 2 := by omega
      go_wp2
      go_ret
      exact ⟨rfl, rfl⟩
end Go.Proofs.Ythmjanhdjchdbaa
namespace Go.Proofs.Ythmjanhdjchdbaa
open Go.RowKit Go.Maps Go.WideMaps
set_option linter.unusedSimpArgs false

/-- Of the first spots: do they rise? -/
def spAt (s : List (Int × Int)) (k : Nat) : Bool := decide ((if k = 0 then -1 else (s.getD (k - 1) (0, 0)).1) < (s.getD k (0, 0)).1) && decide ((if k = 0 then -1 else (s.getD (k - 1) (0, 0)).2) < (s.getD k (0, 0)).2)
theorem rises_iff {l : List Int} {p : Int} : rises p l = true ↔ ∀ k, k < l.length → (if k = 0 then p else l.getD (k - 1) 0) < l.getD k 0 := by
  rw [rises_at]
  constructor
  · intro h k hk
    have h1 := h k (l[k]'hk) (List.getElem?_eq_getElem hk)
    rw [List.getD_eq_getElem?_getD (l := l) (i := k), List.getElem?_eq_getElem hk]
    exact h1
  · intro h k x hx
    have hk := (List.getElem?_eq_some_iff.1 hx).1
    have h1 := h k hk
    rw [List.getD_eq_getElem?_getD (l := l) (i := k), hx] at h1
    exact h1
theorem getD_poss (s : List (Int × Int)) (k : Nat) : (poss s).getD k 0 = (s.getD k (0, 0)).1 ∧ (atss s).getD k 0 = (s.getD k (0, 0)).2 := by
  unfold poss atss
  rw [List.getD_eq_getElem?_getD, List.getD_eq_getElem?_getD, List.getD_eq_getElem?_getD, List.getElem?_map, List.getElem?_map]
  cases s[k]? <;> exact ⟨rfl, rfl⟩
theorem spots_rise {s : List (Int × Int)} : (rises (-1) (poss s) && rises (-1) (atss s)) = true ↔ ∀ k, k < s.length → spAt s k = true := by
  rw [Bool.and_eq_true, rises_iff, rises_iff]
  have n1 := poss_len s
  constructor
  · rintro ⟨h1, h2⟩ k hk
    have q1 := h1 k (by omega)
    have q2 := h2 k (by omega)
    rw [(getD_poss s k).1, (getD_poss s (k - 1)).1] at q1
    rw [(getD_poss s k).2, (getD_poss s (k - 1)).2] at q2
    unfold spAt
    rw [decide_eq_true q1, decide_eq_true q2]
    rfl
  · intro h
    constructor
    · intro k hk
      have h1 := h k (by omega)
      unfold spAt at h1
      rw [Bool.and_eq_true, decide_eq_true_eq, decide_eq_true_eq] at h1
      rw [(getD_poss s k).1, (getD_poss s (k - 1)).1]
      exact h1.1
    · intro k hk
      have h1 := h k (by omega)
      unfold spAt at h1
      rw [Bool.and_eq_true, decide_eq_true_eq, decide_eq_true_eq] at h1
      rw [(getD_poss s k).2, (getD_poss s (k - 1)).2]
      exact h1.2
end Go.Proofs.Ythmjanhdjchdbaa
namespace Go.Proofs.Ythmjanhdjchdbaa
open Go.RowKit Go.Maps Go.WideMaps
set_option linter.unusedSimpArgs false

theorem sp_low {s : List (Int × Int)} {k : Nat} (h : ∀ j, j < k → spAt s j = true) : ∀ j, j < k → 0 ≤ (s.getD j (0, 0)).1 ∧ 0 ≤ (s.getD j (0, 0)).2
  | 0, hj => by
    have h1 := h 0 hj
    unfold spAt at h1
    simp only [Bool.and_eq_true, decide_eq_true_eq, if_true] at h1
    omega
  | j + 1, hj => by
    have ih := sp_low h j (by omega)
    have h1 := h (j + 1) hj
    unfold spAt at h1
    simp only [Bool.and_eq_true, decide_eq_true_eq, Nat.add_sub_cancel, if_neg (Nat.succ_ne_zero j)] at h1
    omega
theorem check_many {l : List Pst} (h : 4096 < l.length) : checkP l = 2 := by unfold checkP; rw [if_pos h]
theorem check_spots {l : List Pst} {k : Nat} (hk : k < l.length) (h : 4096 < (pAt l k).2.length) : checkP l = 2 := by
  unfold checkP
  split
  · rfl
  · rw [if_pos]
    cases hm : manyUp l l.length with
    | true => rfl
    | false => have := manyUp_iff.1 hm k hk; omega
theorem check_bad {l : List Pst} (h1 : l.length ≤ 4096) (h2 : manyUp l l.length = false) {k : Nat} (hk : k < l.length) (h : okAt l k = false) : checkP l = 1 := by
  unfold checkP
  rw [if_neg (by omega), h2, if_neg (by simp), if_neg]
  intro e
  rw [okUp_iff.1 e k hk] at h
  cases h
theorem check_good {l : List Pst} (h1 : l.length ≤ 4096) (h2 : manyUp l l.length = false) (h : okUp l l.length = true) : checkP l = 0 := by
  unfold checkP
  rw [if_neg (by omega), h2, if_neg (by simp), if_pos h]
theorem okAt_spots {l : List Pst} {i : Nat} (h : (rises (-1) (poss (pAt l i).2) && rises (-1) (atss (pAt l i).2)) = false) : okAt l i = false := by
  unfold okAt
  rw [h]
  simp

set_option maxHeartbeats 8000000 in
set_option maxRecDepth 100000 in
theorem r9Check_any (w : World) (A : Option Addr) (n c : Nat) (l : List Pst) (h : PostsSee w A n l) (hn : n ≤ 9223372036854775807) :
    Calls Try.prog 32 #[.slice A n c] w fun e w' => e = .returned (.int .i64 (checkP l)) ∧ Below w.heap.size w w' := by
  have HP := Lib.hid h
  have HLEN := Lib.hid h.len
  obtain ⟨R, hR⟩ : ∃ R, R = checkP l := ⟨_, rfl⟩
  rw [← hR]
  have HR := Lib.hid hR
  clear h hR
  by_cases hmany : 4096 < n
  · have d0 : decide ((4096 : Int) < (n : Int)) = true := decide_eq_true (by omega)
    have hr : R = 2 := by rw [HR.out, check_many (by rw [HLEN.out]; exact hmany)]
    subst hr
    go_enter Try.func32, Try.ntmps32
    go_wp2
    go_ret
    exact ⟨rfl, Below.refl _ _⟩
  · have d0 : decide ((4096 : Int) < (n : Int)) = false := decide_eq_false (by omega)
    go_enter Try.func32, Try.ntmps32
    go_wp2
    go_loopw [3] (fun i wr => ∃ k : Nat, k ≤ n ∧ i = .int .i64 k ∧ manyUp l k = false ∧ wr = w) (fun i _ => n - (intOf i).toNat)
    case atStart => exact ⟨0, by omega, rfl, rfl, rfl⟩
    case round =>
      obtain ⟨k, hk, rfl, hmu, hwr⟩ := hrel
      obtain rfl := hwr.symm
      have HMU := Lib.hid hmu
      clear hmu
      rcases Nat.lt_or_ge k n with hlt | hge
      · have hlt' : (k : Int) < (n : Int) := by omega
        have p0 : (0 : Int) ≤ (k : Int) := by omega
        have hw5 : IntKind.i64.wrap ((k : Int) + 1) = (k : Int) + 1 := IntWalk.i64_in _ (by omega)
        obtain ⟨pa, x, SA, da, rfl, hx, -, a0, a1, -, -⟩ := HP.out.at k hlt
        have hpx := pAt_eq hx
        have HPX := Lib.hid hpx
        clear hx hpx a0
        by_cases hsp : 4096 < x.2.length
        · have d1 : decide ((4096 : Int) < (x.2.length : Int)) = true := decide_eq_true (by omega)
          have hr : R = 2 := by rw [HR.out, check_spots (k := k) (by rw [HLEN.out]; exact hlt) (by rw [HPX.out]; exact hsp)]
          subst hr
          go_wp2
          go_ret
          exact ⟨rfl, Below.refl _ _⟩
        · have d1 : decide ((4096 : Int) < (x.2.length : Int)) = false := decide_eq_false (by omega)
          have hnx : manyUp l (k + 1) = false := by rw [manyUp, HMU.out, HPX.out, decide_eq_false hsp]; rfl
          have HNX := Lib.hid hnx
          clear hnx
          go_wp2
          go_roundw
          case rel => exact ⟨k + 1, by omega, by go_num, HNX.out, by first | rfl | trivial⟩
          case measure => simp [intOf]; omega
      · obtain rfl : k = n := by omega
        have hlz : ¬ ((k : Int) < (k : Int)) := by omega
        have HM0 := HMU
        go_wp2
        go_loopw [4] (fun i wr => ∃ j : Nat, j ≤ k ∧ i = .int .i64 j ∧ okUp l j = true ∧ Below w.heap.size w wr) (fun i _ => k - (intOf i).toNat)
        case atStart => exact ⟨0, by omega, rfl, rfl, Below.refl _ _⟩
        case round =>
          obtain ⟨j, hj, rfl, hok, hB⟩ := hrel
          have HOK := Lib.hid hok
          have HB := Lib.hid hB
          clear hok hB
          rcases Nat.lt_or_ge j k with hlt | hge
          · have hlt' : (j : Int) < (k : Int) := by omega
            have p0 : (0 : Int) ≤ (j : Int) := by omega
            have hw5 : IntKind.i64.wrap ((j : Int) + 1) = (j : Int) + 1 := IntWalk.i64_in _ (by omega)
            obtain ⟨pa, x, SA, da, rfl, hx, hfx, a0, a1, hda, sa⟩ := (HP.out.below HB.out).at j hlt
            have hpx := pAt_eq hx
            have HPX := Lib.hid hpx
            have hxs : x.2.length ≤ 4096 := by have := manyUp_iff.1 HM0.out j hlt; rw [hpx] at this; exact this
            obtain ⟨x1, x2⟩ := x
            simp only at a0 a1 hda sa hxs hfx
            have hbad : okAt l j = false → R = 1 := fun e => by rw [HR.out, check_bad (by rw [HLEN.out]; omega) (by rw [HLEN.out]; exact HM0.out) (by rw [HLEN.out]; exact hlt) e]
            have HBAD := Lib.hid hbad
            obtain ⟨W1, hW1⟩ : ∃ W1, W1 = wr.alloc (.cells #[.int .i64 x1, .slice SA x2.length da] 49) := ⟨_, rfl⟩
            have hBk : Blk W1 wr.heap.size 49 #[.int .i64 x1, .slice SA x2.length da] := by rw [hW1]; exact Blk.new _ _ _
            have hb1 : Below wr.heap.size wr W1 := by rw [hW1]; exact (Below.refl _ wr).alloc (Nat.le_refl _) _
            obtain ⟨g, hg⟩ : ∃ g, g = wr.heap.size := ⟨_, rfl⟩
            rw [← hg] at hBk
            have e0 : ∀ q, (W1.drewN q).cell? ⟨g, 0, none⟩ = some (.int .i64 x1) := fun _ => hBk.cell 0
            have e1 : ∀ q, (W1.drewN q).cell? ⟨g, 1, none⟩ = some (.slice SA x2.length da) := fun _ => hBk.cell 1
            have HBK := Lib.hid hBk
            have HW1 := Lib.hid hW1
            have HG := Lib.hid hg
            have HBW := Lib.hid (below_then HB.out hb1 HB.out.size)
            have HSA := Lib.hid (sa.below hb1)
            clear hx hpx hbad hW1 hBk hb1 hg sa hfx
            by_cases hj0 : j = 0
            · have dj : decide ((0 : Int) < (j : Int)) = false := decide_eq_false (by omega)
              have djm : decide (0 < j) = false := decide_eq_false (by omega)
              have hlast : lastD l j = -1 := by unfold lastD; rw [if_pos hj0]
              have HLAST := Lib.hid hlast
              clear hlast hj0
              by_cases c1 : x1 < 0
              · have d2 : decide (x1 < 0) = true := decide_eq_true c1
                have hb : okAt l j = false := by
                  rw [Bool.eq_false_iff]
                  intro e
                  obtain ⟨q1, q2, q3, q4, -, -⟩ := okAt_iff.1 e
                  rw [HPX.out] at q1 q2 q3 q4
                  rw [HLAST.out] at q3
                  simp only at q1 q2 q3 q4
                  omega
                obtain rfl : R = 1 := HBAD.out hb
                clear hb
                go_wp2_with fail
                rw [← HW1.out, ← HG.out]
                go_quiet (fail)
                go_wp2
                go_ret
                exact ⟨rfl, below_drewN HBW.out _⟩
              · have d2 : decide (x1 < 0) = false := decide_eq_false c1
                by_cases c2 : 4294967296 < x1
                · have d3 : decide ((4294967296 : Int) < x1) = true := decide_eq_true c2
                  have hb : okAt l j = false := by
                    rw [Bool.eq_false_iff]
                    intro e
                    obtain ⟨q1, q2, q3, q4, -, -⟩ := okAt_iff.1 e
                    rw [HPX.out] at q1 q2 q3 q4
                    rw [HLAST.out] at q3
                    simp only at q1 q2 q3 q4
                    omega
                  obtain rfl : R = 1 := HBAD.out hb
                  clear hb
                  go_wp2_with fail
                  rw [← HW1.out, ← HG.out]
                  go_quiet (fail)
                  go_wp2
                  go_ret
                  exact ⟨rfl, below_drewN HBW.out _⟩
                · have d3 : decide ((4294967296 : Int) < x1) = false := decide_eq_false c2
                  by_cases c4 : x2.length = 0
                  · have d5 : ((x2.length : Int) == 0) = true := by rw [c4]; rfl
                    have C4 := Lib.hid c4
                    clear c4
                    have hb : okAt l j = false := by
                      rw [Bool.eq_false_iff]
                      intro e
                      obtain ⟨q1, q2, q3, q4, -, -⟩ := okAt_iff.1 e
                      rw [HPX.out] at q1 q2 q3 q4
                      rw [HLAST.out] at q3
                      simp only at q1 q2 q3 q4
                      have c4 := C4.out; omega
                    obtain rfl : R = 1 := HBAD.out hb
                    clear hb
                    go_wp2_with fail
                    rw [← HW1.out, ← HG.out]
                    go_quiet (fail)
                    go_wp2
                    go_ret
                    exact ⟨rfl, below_drewN HBW.out _⟩
                  · have d5 : ((x2.length : Int) == 0) = false := beq_eq_false_iff_ne.2 (fun e => c4 (by omega))
                    have hdoc : 0 ≤ x1 ∧ x1 ≤ 4294967296 ∧ lastD l j < x1 ∧ 0 < x2.length := by
                      rw [HLAST.out]
                      omega
                    have HDOC := Lib.hid hdoc
                    clear hdoc
                    go_wp2_with fail
                    rw [← HW1.out, ← HG.out]
                    go_quiet (fail)
                    have hk2 := HBK.out.drewN nq
                    have hB2 := below_drewN HBW.out nq
                    have hs2 := HSA.out.drewN nq
                    obtain ⟨W2, hW2⟩ : ∃ W2, W2 = W1.drewN nq := ⟨_, rfl⟩
                    rw [← hW2] at hk2 hB2 hs2 ⊢
                    have HBK2 := Lib.hid hk2
                    have HB2 := Lib.hid hB2
                    have HS2 := Lib.hid hs2
                    have t1 : W2.cell? ⟨g, 1, none⟩ = some (.slice SA x2.length da) := hk2.cell 1
                    clear hW2 hk2 hB2 hs2 e0 e1
                    go_wp2
                    go_loopw [6] (fun i wi => ∃ z : Nat, z ≤ x2.length ∧ i = .int .i64 z ∧ (∀ t, t < z → spAt x2 t = true) ∧ Below W2.heap.size W2 wi) (fun i _ => x2.length - (intOf i).toNat)
                    case atStart => exact ⟨0, by omega, rfl, fun t ht => by omega, Below.refl _ _⟩
                    case round =>
                      obtain ⟨z, hz, rfl, hsp, hBi⟩ := hrel
                      have HSP := Lib.hid hsp
                      have HBi := Lib.hid hBi
                      clear hsp hBi t1
                      have hkz := HBK2.out.below HBi.out HBK2.out.lt
                      have f1 : wr.cell? ⟨g, 1, none⟩ = some (.slice SA x2.length da) := hkz.cell 1
                      rcases Nat.lt_or_ge z x2.length with hz2 | hz2
                      · have hzi : (z : Int) < (x2.length : Int) := by omega
                        have z0 : (0 : Int) ≤ (z : Int) := by omega
                        have hw8 : IntKind.i64.wrap ((z : Int) + 1) = (z : Int) + 1 := IntWalk.i64_in _ (by omega)
                        obtain ⟨ps, v, rfl, hv, b0, b1, -, -⟩ := (HS2.out.below HBi.out).at z hz2
                        obtain ⟨v1, v2⟩ := v
                        simp only at b0 b1
                        obtain ⟨V1, hV1⟩ : ∃ V1, V1 = wr.alloc (.cells #[.int .i64 v1, .int .i64 v2] 53) := ⟨_, rfl⟩
                        have hvk : Blk V1 wr.heap.size 53 #[.int .i64 v1, .int .i64 v2] := by rw [hV1]; exact Blk.new _ _ _
                        have hvb : Below wr.heap.size wr V1 := by rw [hV1]; exact (Below.refl _ wr).alloc (Nat.le_refl _) _
                        obtain ⟨gg, hgg⟩ : ∃ gg, gg = wr.heap.size := ⟨_, rfl⟩
                        rw [← hgg] at hvk
                        have r0 : ∀ q, (V1.drewN q).cell? ⟨gg, 0, none⟩ = some (.int .i64 v1) := fun _ => hvk.cell 0
                        have r1 : ∀ q, (V1.drewN q).cell? ⟨gg, 1, none⟩ = some (.int .i64 v2) := fun _ => hvk.cell 1
                        have f1z : V1.cell? ⟨g, 1, none⟩ = some (.slice (some ps) x2.length da) := below_cells hvb f1
                        have f1q : ∀ q, (V1.drewN q).cell? ⟨g, 1, none⟩ = some (.slice (some ps) x2.length da) := fun _ => f1z
                        have HV1 := Lib.hid hV1
                        have HGG := Lib.hid hgg
                        have HBV2 := Lib.hid (below_then HBi.out hvb HBi.out.size)
                        have HBV := Lib.hid (below_then HB2.out HBV2.out HB2.out.size)
                        have hgv : x2.getD z (0, 0) = (v1, v2) := by rw [List.getD_eq_getElem?_getD, hv]; rfl
                        by_cases hz0 : z = 0
                        · have dz : decide ((0 : Int) < (z : Int)) = false := decide_eq_false (by omega)
                          have dzm : decide (0 < z) = false := decide_eq_false (by omega)
                          have hsz : spAt x2 z = (decide ((-1 : Int) < v1) && decide ((-1 : Int) < v2)) := by unfold spAt; rw [if_pos hz0, if_pos hz0, hgv]
                          have HSZ := Lib.hid hsz
                          clear hsz hv hgv hvk hvb hV1 hgg hkz f1z hz0
                          by_cases c6 : v1 < 0
                          · have m1 : decide (v1 < 0) = true := decide_eq_true c6
                            have hb : okAt l j = false := okAt_spots (by
                              rw [Bool.eq_false_iff]
                              intro e
                              rw [HPX.out] at e
                              have e2 := spots_rise.1 e z hz2
                              rw [HSZ.out, Bool.and_eq_true, decide_eq_true_eq, decide_eq_true_eq] at e2
                              omega)
                            obtain rfl : R = 1 := HBAD.out hb
                            clear hb
                            go_wp2_with fail
                            rw [← HV1.out, ← HGG.out]
                            go_quiet (fail)
                            go_wp2
                            go_ret
                            exact ⟨rfl, below_drewN HBV.out _⟩
                          · have m1 : decide (v1 < 0) = false := decide_eq_false c6
                            by_cases c7 : v2 < 0
                            · have m2 : decide (v2 < 0) = true := decide_eq_true c7
                              have hb : okAt l j = false := okAt_spots (by
                                rw [Bool.eq_false_iff]
                                intro e
                                rw [HPX.out] at e
                                have e2 := spots_rise.1 e z hz2
                                rw [HSZ.out, Bool.and_eq_true, decide_eq_true_eq, decide_eq_true_eq] at e2
                                omega)
                              obtain rfl : R = 1 := HBAD.out hb
                              clear hb
                              go_wp2_with fail
                              rw [← HV1.out, ← HGG.out]
                              go_quiet (fail)
                              go_wp2
                              go_ret
                              exact ⟨rfl, below_drewN HBV.out _⟩
                            · have m2 : decide (v2 < 0) = false := decide_eq_false c7
                              have hsz2 : spAt x2 z = true := by
                                rw [HSZ.out, Bool.and_eq_true, decide_eq_true_eq, decide_eq_true_eq]
                                omega
                              have HNX := Lib.hid hsz2
                              clear hsz2
                              go_wp2_with fail
                              rw [← HV1.out, ← HGG.out]
                              go_quiet (fail)
                              go_wp2
                              go_roundw
                              case rel => exact ⟨z + 1, by omega, by go_num, fun t ht => by
                                rcases Nat.lt_or_ge t z with h1 | h1
                                · exact HSP.out t h1
                                · obtain rfl : t = z := by omega
                                  exact HNX.out, below_drewN HBV2.out _⟩
                              case measure => simp [intOf]; omega
                        · have dz : decide ((0 : Int) < (z : Int)) = true := decide_eq_true (by omega)
                          have dzn : 0 < z := by omega
                          have dzm : decide (0 < z) = true := decide_eq_true dzn
                          obtain ⟨y, hy⟩ : ∃ y, z = y + 1 := ⟨z - 1, by omega⟩
                          have hw9 : IntKind.i64.wrap ((z : Int) - 1) = (y : Int) := by rw [show (z : Int) - 1 = (y : Int) by omega]; exact IntWalk.i64_in _ (by omega)
                          have y0 : (0 : Int) ≤ (y : Int) := by omega
                          have y1i : (y : Int) < (x2.length : Int) := by omega
                          have y1n : y < x2.length := by omega
                          obtain ⟨pt, u, hpt, hu, s0, s1, -, -⟩ := ((HS2.out.below HBi.out).below hvb).at y y1n
                          obtain rfl : ps = pt := Option.some.inj hpt
                          obtain ⟨u1, u2⟩ := u
                          simp only at s0 s1
                          have s0' : ∀ q, (V1.drewN q).cell? (ps.add (y * 2)) = some (.int .i64 u1) := fun _ => s0
                          have s1' : ∀ q, (V1.drewN q).cell? ⟨(ps.add (y * 2)).block, (ps.add (y * 2)).off + 1, none⟩ = some (.int .i64 u2) := fun _ => s1
                          have hgu : x2.getD (z - 1) (0, 0) = (u1, u2) := by rw [hy, Nat.add_sub_cancel, List.getD_eq_getElem?_getD, hu]; rfl
                          have hlow := sp_low HSP.out (z - 1) (by omega)
                          rw [hgu] at hlow
                          obtain ⟨hlo1, hlo2⟩ := hlow
                          simp only at hlo1 hlo2
                          have hsz : spAt x2 z = (decide (u1 < v1) && decide (u2 < v2)) := by unfold spAt; rw [if_neg hz0, if_neg hz0, hgv, hgu]
                          have HSZ := Lib.hid hsz
                          clear hsz hv hgv hvk hvb hV1 hgg hkz f1z hpt hu s0 s1 hgu hy
                          by_cases c6 : v1 < 0
                          · have m1 : decide (v1 < 0) = true := decide_eq_true c6
                            have hb : okAt l j = false := okAt_spots (by
                              rw [Bool.eq_false_iff]
                              intro e
                              rw [HPX.out] at e
                              have e2 := spots_rise.1 e z hz2
                              rw [HSZ.out, Bool.and_eq_true, decide_eq_true_eq, decide_eq_true_eq] at e2
                              omega)
                            obtain rfl : R = 1 := HBAD.out hb
                            clear hb
                            go_wp2_with fail
                            rw [← HV1.out, ← HGG.out]
                            go_quiet (fail)
                            go_wp2
                            go_ret
                            exact ⟨rfl, below_drewN HBV.out _⟩
                          · have m1 : decide (v1 < 0) = false := decide_eq_false c6
                            by_cases c7 : v2 < 0
                            · have m2 : decide (v2 < 0) = true := decide_eq_true c7
                              have hb : okAt l j = false := okAt_spots (by
                                rw [Bool.eq_false_iff]
                                intro e
                                rw [HPX.out] at e
                                have e2 := spots_rise.1 e z hz2
                                rw [HSZ.out, Bool.and_eq_true, decide_eq_true_eq, decide_eq_true_eq] at e2
                                omega)
                              obtain rfl : R = 1 := HBAD.out hb
                              clear hb
                              go_wp2_with fail
                              rw [← HV1.out, ← HGG.out]
                              go_quiet (fail)
                              go_wp2
                              go_ret
                              exact ⟨rfl, below_drewN HBV.out _⟩
                            · have m2 : decide (v2 < 0) = false := decide_eq_false c7
                              by_cases c8 : v1 ≤ u1
                              · have m3 : decide (v1 ≤ u1) = true := decide_eq_true c8
                                have hb : okAt l j = false := okAt_spots (by
                                  rw [Bool.eq_false_iff]
                                  intro e
                                  rw [HPX.out] at e
                                  have e2 := spots_rise.1 e z hz2
                                  rw [HSZ.out, Bool.and_eq_true, decide_eq_true_eq, decide_eq_true_eq] at e2
                                  omega)
                                obtain rfl : R = 1 := HBAD.out hb
                                clear hb
                                go_wp2_with fail
                                rw [← HV1.out, ← HGG.out]
                                go_quiet (fail)
                                go_wp2
                                go_ret
                                exact ⟨rfl, below_drewN HBV.out _⟩
                              · have m3 : decide (v1 ≤ u1) = false := decide_eq_false c8
                                by_cases c9 : v2 ≤ u2
                                · have m4 : decide (v2 ≤ u2) = true := decide_eq_true c9
                                  have hb : okAt l j = false := okAt_spots (by
                                    rw [Bool.eq_false_iff]
                                    intro e
                                    rw [HPX.out] at e
                                    have e2 := spots_rise.1 e z hz2
                                    rw [HSZ.out, Bool.and_eq_true, decide_eq_true_eq, decide_eq_true_eq] at e2
                                    omega)
                                  obtain rfl : R = 1 := HBAD.out hb
                                  clear hb
                                  go_wp2_with fail
                                  rw [← HV1.out, ← HGG.out]
                                  go_quiet (fail)
                                  go_wp2
                                  go_ret
                                  exact ⟨rfl, below_drewN HBV.out _⟩
                                · have m4 : decide (v2 ≤ u2) = false := decide_eq_false c9
                                  have hsz2 : spAt x2 z = true := by
                                    rw [HSZ.out, Bool.and_eq_true, decide_eq_true_eq, decide_eq_true_eq]
                                    omega
                                  have HNX := Lib.hid hsz2
                                  clear hsz2
                                  go_wp2_with fail
                                  rw [← HV1.out, ← HGG.out]
                                  go_quiet (fail)
                                  go_wp2
                                  go_roundw
                                  case rel => exact ⟨z + 1, by omega, by go_num, fun t ht => by
                                    rcases Nat.lt_or_ge t z with h1 | h1
                                    · exact HSP.out t h1
                                    · obtain rfl : t = z := by omega
                                      exact HNX.out, below_drewN HBV2.out _⟩
                                  case measure => simp [intOf]; omega
                      · obtain rfl : z = x2.length := by omega
                        have hlz3 : ¬ ((x2.length : Int) < (x2.length : Int)) := by omega
                        have hnext : okUp l (j + 1) = true := by
                          rw [okUp, HOK.out, Bool.true_and]
                          have hri := spots_rise.2 HSP.out
                          rw [Bool.and_eq_true] at hri
                          refine okAt_iff.2 ?_
                          rw [HPX.out]
                          exact ⟨HDOC.out.1, HDOC.out.2.1, HDOC.out.2.2.1, HDOC.out.2.2.2, hri.1, hri.2⟩
                        have HNEXT := Lib.hid hnext
                        have HFIN := Lib.hid (below_then HB2.out HBi.out HB2.out.size)
                        clear hnext hkz
                        go_wp2
                        exact ⟨⟨j + 1, by omega, by go_num, HNEXT.out, HFIN.out⟩, by simp [intOf]; omega⟩
            · have dj : decide ((0 : Int) < (j : Int)) = true := decide_eq_true (by omega)
              have djn : 0 < j := by omega
              have djm : decide (0 < j) = true := decide_eq_true djn
              obtain ⟨i, hi⟩ : ∃ i, j = i + 1 := ⟨j - 1, by omega⟩
              have hw7 : IntKind.i64.wrap ((j : Int) - 1) = (i : Int) := by rw [show (j : Int) - 1 = (i : Int) by omega]; exact IntWalk.i64_in _ (by omega)
              have i0 : (0 : Int) ≤ (i : Int) := by omega
              have i1 : (i : Int) < (k : Int) := by omega
              have i1n : i < k := by omega
              obtain ⟨pb, y, SB, db, hpb, hy, -, b0, -, -, -⟩ := (HP.out.below HBW.out).at i i1n
              obtain rfl : pa = pb := Option.some.inj hpb
              obtain ⟨y1, yy⟩ := y
              simp only at b0
              have b0' : ∀ q, (W1.drewN q).cell? (pa.add (i * 2)) = some (.int .i64 y1) := fun _ => b0
              have hlast : lastD l j = y1 := by unfold lastD; rw [if_neg hj0, hi, Nat.add_sub_cancel, pAt_eq hy]
              have HLAST := Lib.hid hlast
              clear hlast hpb hy b0 hi
              by_cases c1 : x1 < 0
              · have d2 : decide (x1 < 0) = true := decide_eq_true c1
                have hb : okAt l j = false := by
                  rw [Bool.eq_false_iff]
                  intro e
                  obtain ⟨q1, q2, q3, q4, -, -⟩ := okAt_iff.1 e
                  rw [HPX.out] at q1 q2 q3 q4
                  rw [HLAST.out] at q3
                  simp only at q1 q2 q3 q4
                  omega
                obtain rfl : R = 1 := HBAD.out hb
                clear hb
                go_wp2_with fail
                rw [← HW1.out, ← HG.out]
                go_quiet (fail)
                go_wp2
                go_ret
                exact ⟨rfl, below_drewN HBW.out _⟩
              · have d2 : decide (x1 < 0) = false := decide_eq_false c1
                by_cases c2 : 4294967296 < x1
                · have d3 : decide ((4294967296 : Int) < x1) = true := decide_eq_true c2
                  have hb : okAt l j = false := by
                    rw [Bool.eq_false_iff]
                    intro e
                    obtain ⟨q1, q2, q3, q4, -, -⟩ := okAt_iff.1 e
                    rw [HPX.out] at q1 q2 q3 q4
                    rw [HLAST.out] at q3
                    simp only at q1 q2 q3 q4
                    omega
                  obtain rfl : R = 1 := HBAD.out hb
                  clear hb
                  go_wp2_with fail
                  rw [← HW1.out, ← HG.out]
                  go_quiet (fail)
                  go_wp2
                  go_ret
                  exact ⟨rfl, below_drewN HBW.out _⟩
                · have d3 : decide ((4294967296 : Int) < x1) = false := decide_eq_false c2
                  by_cases c3 : x1 ≤ y1
                  · have d4 : decide (x1 ≤ y1) = true := decide_eq_true c3
                    have hb : okAt l j = false := by
                      rw [Bool.eq_false_iff]
                      intro e
                      obtain ⟨q1, q2, q3, q4, -, -⟩ := okAt_iff.1 e
                      rw [HPX.out] at q1 q2 q3 q4
                      rw [HLAST.out] at q3
                      simp only at q1 q2 q3 q4
                      omega
                    obtain rfl : R = 1 := HBAD.out hb
                    clear hb
                    go_wp2_with fail
                    rw [← HW1.out, ← HG.out]
                    go_quiet (fail)
                    go_wp2
                    go_ret
                    exact ⟨rfl, below_drewN HBW.out _⟩
                  · have d4 : decide (x1 ≤ y1) = false := decide_eq_false c3
                    by_cases c4 : x2.length = 0
                    · have d5 : ((x2.length : Int) == 0) = true := by rw [c4]; rfl
                      have C4 := Lib.hid c4
                      clear c4
                      have hb : okAt l j = false := by
                        rw [Bool.eq_false_iff]
                        intro e
                        obtain ⟨q1, q2, q3, q4, -, -⟩ := okAt_iff.1 e
                        rw [HPX.out] at q1 q2 q3 q4
                        rw [HLAST.out] at q3
                        simp only at q1 q2 q3 q4
                        have c4 := C4.out; omega
                      obtain rfl : R = 1 := HBAD.out hb
                      clear hb
                      go_wp2_with fail
                      rw [← HW1.out, ← HG.out]
                      go_quiet (fail)
                      go_wp2
                      go_ret
                      exact ⟨rfl, below_drewN HBW.out _⟩
                    · have d5 : ((x2.length : Int) == 0) = false := beq_eq_false_iff_ne.2 (fun e => c4 (by omega))
                      have hdoc : 0 ≤ x1 ∧ x1 ≤ 4294967296 ∧ lastD l j < x1 ∧ 0 < x2.length := by
                        rw [HLAST.out]
                        omega
                      have HDOC := Lib.hid hdoc
                      clear hdoc
                      go_wp2_with fail
                      rw [← HW1.out, ← HG.out]
                      go_quiet (fail)
                      have hk2 := HBK.out.drewN nq
                      have hB2 := below_drewN HBW.out nq
                      have hs2 := HSA.out.drewN nq
                      obtain ⟨W2, hW2⟩ : ∃ W2, W2 = W1.drewN nq := ⟨_, rfl⟩
                      rw [← hW2] at hk2 hB2 hs2 ⊢
                      have HBK2 := Lib.hid hk2
                      have HB2 := Lib.hid hB2
                      have HS2 := Lib.hid hs2
                      have t1 : W2.cell? ⟨g, 1, none⟩ = some (.slice SA x2.length da) := hk2.cell 1
                      clear hW2 hk2 hB2 hs2 e0 e1
                      go_wp2
                      go_loopw [6] (fun i wi => ∃ z : Nat, z ≤ x2.length ∧ i = .int .i64 z ∧ (∀ t, t < z → spAt x2 t = true) ∧ Below W2.heap.size W2 wi) (fun i _ => x2.length - (intOf i).toNat)
                      case atStart => exact ⟨0, by omega, rfl, fun t ht => by omega, Below.refl _ _⟩
                      case round =>
                        obtain ⟨z, hz, rfl, hsp, hBi⟩ := hrel
                        have HSP := Lib.hid hsp
                        have HBi := Lib.hid hBi
                        clear hsp hBi t1
                        have hkz := HBK2.out.below HBi.out HBK2.out.lt
                        have f1 : wr.cell? ⟨g, 1, none⟩ = some (.slice SA x2.length da) := hkz.cell 1
                        rcases Nat.lt_or_ge z x2.length with hz2 | hz2
                        · have hzi : (z : Int) < (x2.length : Int) := by omega
                          have z0 : (0 : Int) ≤ (z : Int) := by omega
                          have hw8 : IntKind.i64.wrap ((z : Int) + 1) = (z : Int) + 1 := IntWalk.i64_in _ (by omega)
                          obtain ⟨ps, v, rfl, hv, b0, b1, -, -⟩ := (HS2.out.below HBi.out).at z hz2
                          obtain ⟨v1, v2⟩ := v
                          simp only at b0 b1
                          obtain ⟨V1, hV1⟩ : ∃ V1, V1 = wr.alloc (.cells #[.int .i64 v1, .int .i64 v2] 53) := ⟨_, rfl⟩
                          have hvk : Blk V1 wr.heap.size 53 #[.int .i64 v1, .int .i64 v2] := by rw [hV1]; exact Blk.new _ _ _
                          have hvb : Below wr.heap.size wr V1 := by rw [hV1]; exact (Below.refl _ wr).alloc (Nat.le_refl _) _
                          obtain ⟨gg, hgg⟩ : ∃ gg, gg = wr.heap.size := ⟨_, rfl⟩
                          rw [← hgg] at hvk
                          have r0 : ∀ q, (V1.drewN q).cell? ⟨gg, 0, none⟩ = some (.int .i64 v1) := fun _ => hvk.cell 0
                          have r1 : ∀ q, (V1.drewN q).cell? ⟨gg, 1, none⟩ = some (.int .i64 v2) := fun _ => hvk.cell 1
                          have f1z : V1.cell? ⟨g, 1, none⟩ = some (.slice (some ps) x2.length da) := below_cells hvb f1
                          have f1q : ∀ q, (V1.drewN q).cell? ⟨g, 1, none⟩ = some (.slice (some ps) x2.length da) := fun _ => f1z
                          have HV1 := Lib.hid hV1
                          have HGG := Lib.hid hgg
                          have HBV2 := Lib.hid (below_then HBi.out hvb HBi.out.size)
                          have HBV := Lib.hid (below_then HB2.out HBV2.out HB2.out.size)
                          have hgv : x2.getD z (0, 0) = (v1, v2) := by rw [List.getD_eq_getElem?_getD, hv]; rfl
                          by_cases hz0 : z = 0
                          · have dz : decide ((0 : Int) < (z : Int)) = false := decide_eq_false (by omega)
                            have dzm : decide (0 < z) = false := decide_eq_false (by omega)
                            have hsz : spAt x2 z = (decide ((-1 : Int) < v1) && decide ((-1 : Int) < v2)) := by unfold spAt; rw [if_pos hz0, if_pos hz0, hgv]
                            have HSZ := Lib.hid hsz
                            clear hsz hv hgv hvk hvb hV1 hgg hkz f1z hz0
                            by_cases c6 : v1 < 0
                            · have m1 : decide (v1 < 0) = true := decide_eq_true c6
                              have hb : okAt l j = false := okAt_spots (by
                                rw [Bool.eq_false_iff]
                                intro e
                                rw [HPX.out] at e
                                have e2 := spots_rise.1 e z hz2
                                rw [HSZ.out, Bool.and_eq_true, decide_eq_true_eq, decide_eq_true_eq] at e2
                                omega)
                              obtain rfl : R = 1 := HBAD.out hb
                              clear hb
                              go_wp2_with fail
                              rw [← HV1.out, ← HGG.out]
                              go_quiet (fail)
                              go_wp2
                              go_ret
                              exact ⟨rfl, below_drewN HBV.out _⟩
                            · have m1 : decide (v1 < 0) = false := decide_eq_false c6
                              by_cases c7 : v2 < 0
                              · have m2 : decide (v2 < 0) = true := decide_eq_true c7
                                have hb : okAt l j = false := okAt_spots (by
                                  rw [Bool.eq_false_iff]
                                  intro e
                                  rw [HPX.out] at e
                                  have e2 := spots_rise.1 e z hz2
                                  rw [HSZ.out, Bool.and_eq_true, decide_eq_true_eq, decide_eq_true_eq] at e2
                                  omega)
                                obtain rfl : R = 1 := HBAD.out hb
                                clear hb
                                go_wp2_with fail
                                rw [← HV1.out, ← HGG.out]
                                go_quiet (fail)
                                go_wp2
                                go_ret
                                exact ⟨rfl, below_drewN HBV.out _⟩
                              · have m2 : decide (v2 < 0) = false := decide_eq_false c7
                                have hsz2 : spAt x2 z = true := by
                                  rw [HSZ.out, Bool.and_eq_true, decide_eq_true_eq, decide_eq_true_eq]
                                  omega
                                have HNX := Lib.hid hsz2
                                clear hsz2
                                go_wp2_with fail
                                rw [← HV1.out, ← HGG.out]
                                go_quiet (fail)
                                go_wp2
                                go_roundw
                                case rel => exact ⟨z + 1, by omega, by go_num, fun t ht => by
                                  rcases Nat.lt_or_ge t z with h1 | h1
                                  · exact HSP.out t h1
                                  · obtain rfl : t = z := by omega
                                    exact HNX.out, below_drewN HBV2.out _⟩
                                case measure => simp [intOf]; omega
                          · have dz : decide ((0 : Int) < (z : Int)) = true := decide_eq_true (by omega)
                            have dzn : 0 < z := by omega
                            have dzm : decide (0 < z) = true := decide_eq_true dzn
                            obtain ⟨y, hy⟩ : ∃ y, z = y + 1 := ⟨z - 1, by omega⟩
                            have hw9 : IntKind.i64.wrap ((z : Int) - 1) = (y : Int) := by rw [show (z : Int) - 1 = (y : Int) by omega]; exact IntWalk.i64_in _ (by omega)
                            have y0 : (0 : Int) ≤ (y : Int) := by omega
                            have y1i : (y : Int) < (x2.length : Int) := by omega
                            have y1n : y < x2.length := by omega
                            obtain ⟨pt, u, hpt, hu, s0, s1, -, -⟩ := ((HS2.out.below HBi.out).below hvb).at y y1n
                            obtain rfl : ps = pt := Option.some.inj hpt
                            obtain ⟨u1, u2⟩ := u
                            simp only at s0 s1
                            have s0' : ∀ q, (V1.drewN q).cell? (ps.add (y * 2)) = some (.int .i64 u1) := fun _ => s0
                            have s1' : ∀ q, (V1.drewN q).cell? ⟨(ps.add (y * 2)).block, (ps.add (y * 2)).off + 1, none⟩ = some (.int .i64 u2) := fun _ => s1
                            have hgu : x2.getD (z - 1) (0, 0) = (u1, u2) := by rw [hy, Nat.add_sub_cancel, List.getD_eq_getElem?_getD, hu]; rfl
                            have hlow := sp_low HSP.out (z - 1) (by omega)
                            rw [hgu] at hlow
                            obtain ⟨hlo1, hlo2⟩ := hlow
                            simp only at hlo1 hlo2
                            have hsz : spAt x2 z = (decide (u1 < v1) && decide (u2 < v2)) := by unfold spAt; rw [if_neg hz0, if_neg hz0, hgv, hgu]
                            have HSZ := Lib.hid hsz
                            clear hsz hv hgv hvk hvb hV1 hgg hkz f1z hpt hu s0 s1 hgu hy
                            by_cases c6 : v1 < 0
                            · have m1 : decide (v1 < 0) = true := decide_eq_true c6
                              have hb : okAt l j = false := okAt_spots (by
                                rw [Bool.eq_false_iff]
                                intro e
                                rw [HPX.out] at e
                                have e2 := spots_rise.1 e z hz2
                                rw [HSZ.out, Bool.and_eq_true, decide_eq_true_eq, decide_eq_true_eq] at e2
                                omega)
                              obtain rfl : R = 1 := HBAD.out hb
                              clear hb
                              go_wp2_with fail
                              rw [← HV1.out, ← HGG.out]
                              go_quiet (fail)
                              go_wp2
                              go_ret
                              exact ⟨rfl, below_drewN HBV.out _⟩
                            · have m1 : decide (v1 < 0) = false := decide_eq_false c6
                              by_cases c7 : v2 < 0
                              · have m2 : decide (v2 < 0) = true := decide_eq_true c7
                                have hb : okAt l j = false := okAt_spots (by
                                  rw [Bool.eq_false_iff]
                                  intro e
                                  rw [HPX.out] at e
                                  have e2 := spots_rise.1 e z hz2
                                  rw [HSZ.out, Bool.and_eq_true, decide_eq_true_eq, decide_eq_true_eq] at e2
                                  omega)
                                obtain rfl : R = 1 := HBAD.out hb
                                clear hb
                                go_wp2_with fail
                                rw [← HV1.out, ← HGG.out]
                                go_quiet (fail)
                                go_wp2
                                go_ret
                                exact ⟨rfl, below_drewN HBV.out _⟩
                              · have m2 : decide (v2 < 0) = false := decide_eq_false c7
                                by_cases c8 : v1 ≤ u1
                                · have m3 : decide (v1 ≤ u1) = true := decide_eq_true c8
                                  have hb : okAt l j = false := okAt_spots (by
                                    rw [Bool.eq_false_iff]
                                    intro e
                                    rw [HPX.out] at e
                                    have e2 := spots_rise.1 e z hz2
                                    rw [HSZ.out, Bool.and_eq_true, decide_eq_true_eq, decide_eq_true_eq] at e2
                                    omega)
                                  obtain rfl : R = 1 := HBAD.out hb
                                  clear hb
                                  go_wp2_with fail
                                  rw [← HV1.out, ← HGG.out]
                                  go_quiet (fail)
                                  go_wp2
                                  go_ret
                                  exact ⟨rfl, below_drewN HBV.out _⟩
                                · have m3 : decide (v1 ≤ u1) = false := decide_eq_false c8
                                  by_cases c9 : v2 ≤ u2
                                  · have m4 : decide (v2 ≤ u2) = true := decide_eq_true c9
                                    have hb : okAt l j = false := okAt_spots (by
                                      rw [Bool.eq_false_iff]
                                      intro e
                                      rw [HPX.out] at e
                                      have e2 := spots_rise.1 e z hz2
                                      rw [HSZ.out, Bool.and_eq_true, decide_eq_true_eq, decide_eq_true_eq] at e2
                                      omega)
                                    obtain rfl : R = 1 := HBAD.out hb
                                    clear hb
                                    go_wp2_with fail
                                    rw [← HV1.out, ← HGG.out]
                                    go_quiet (fail)
                                    go_wp2
                                    go_ret
                                    exact ⟨rfl, below_drewN HBV.out _⟩
                                  · have m4 : decide (v2 ≤ u2) = false := decide_eq_false c9
                                    have hsz2 : spAt x2 z = true := by
                                      rw [HSZ.out, Bool.and_eq_true, decide_eq_true_eq, decide_eq_true_eq]
                                      omega
                                    have HNX := Lib.hid hsz2
                                    clear hsz2
                                    go_wp2_with fail
                                    rw [← HV1.out, ← HGG.out]
                                    go_quiet (fail)
                                    go_wp2
                                    go_roundw
                                    case rel => exact ⟨z + 1, by omega, by go_num, fun t ht => by
                                      rcases Nat.lt_or_ge t z with h1 | h1
                                      · exact HSP.out t h1
                                      · obtain rfl : t = z := by omega
                                        exact HNX.out, below_drewN HBV2.out _⟩
                                    case measure => simp [intOf]; omega
                        · obtain rfl : z = x2.length := by omega
                          have hlz3 : ¬ ((x2.length : Int) < (x2.length : Int)) := by omega
                          have hnext : okUp l (j + 1) = true := by
                            rw [okUp, HOK.out, Bool.true_and]
                            have hri := spots_rise.2 HSP.out
                            rw [Bool.and_eq_true] at hri
                            refine okAt_iff.2 ?_
                            rw [HPX.out]
                            exact ⟨HDOC.out.1, HDOC.out.2.1, HDOC.out.2.2.1, HDOC.out.2.2.2, hri.1, hri.2⟩
                          have HNEXT := Lib.hid hnext
                          have HFIN := Lib.hid (below_then HB2.out HBi.out HB2.out.size)
                          clear hnext hkz
                          go_wp2
                          exact ⟨⟨j + 1, by omega, by go_num, HNEXT.out, HFIN.out⟩, by simp [intOf]; omega⟩
          · obtain rfl : j = k := by omega
            have hlz2 : ¬ ((j : Int) < (j : Int)) := by omega
            have hr : R = 0 := by rw [HR.out, check_good (by rw [HLEN.out]; omega) (by rw [HLEN.out]; exact HM0.out) (by rw [HLEN.out]; exact HOK.out)]
            subst hr
            go_wp2
            go_ret
            exact ⟨rfl, HB.out⟩
end Go.Proofs.Ythmjanhdjchdbaa
