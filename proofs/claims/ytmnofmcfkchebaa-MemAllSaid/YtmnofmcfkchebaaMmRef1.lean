/- The document's with. -/
import Derived.Test.YtmnofmcfkchebaaKInfo
import Derived.Test.YtmnofmcfkchebaaMmMath
import Derived.Test.YtmnofmcfkchebaaKInts
import Derived.Test.YtmnofmcfkchebaaKOwn
import Derived.Deep.DeepCutAuto
namespace Go.Proofs.Ytmnofmcfkchebaa
open Go.RowKit Go.Maps Go.WideMaps
set_option linter.unusedSimpArgs false

/-- Numbers have come back, in a row of their own. -/
def IntsOut (w : World) (l : List Int) (e : Ending) (w' : World) : Prop := ∃ v, e = .returned v ∧ w'.ownsRow w.heap.size 3 1 v l.length (l.map i64V) ∧ Below w.heap.size w w'
theorem insI_cons (m x : Int) (r : List Int) : insI m (x :: r) = if x < m then x :: insI m r else if x = m then x :: r else m :: x :: r := rfl
theorem drop_this {l : List Int} {k : Nat} {x : Int} (h : l[k]? = some x) : l.drop k = x :: l.drop (k + 1) := by
  obtain ⟨h1, rfl⟩ := List.getElem?_eq_some_iff.1 h
  exact List.drop_eq_getElem_cons h1
theorem take_this {l : List Int} {k : Nat} {x : Int} (h : l[k]? = some x) : l.take (k + 1) = l.take k ++ [x] := by
  rw [List.take_add_one, h]
  rfl

set_option maxHeartbeats 8000000 in
set_option maxRecDepth 100000 in
theorem r12With_any (w : World) (A : Option Addr) (n c : Nat) (l : List Int) (m : Int) (h : IntsIn w A n l) (hn : n ≤ 1000000) : Calls Try.prog 23 #[.slice A n c, .int .i64 m] w (IntsOut w (insI m l)) := by
  obtain ⟨i0, hi, hz0, hz1, hz2⟩ := info_parts intInfoI
  have HL := Lib.hid h
  have HLN := Lib.hid h.len
  clear h
  go_enter Try.func23, Try.ntmps23
  go_wp2
  go_loopw [5, 6, 7] (fun v dv iv wr => ∃ (k : Nat) (o : List Int) (dn : Bool), k ≤ n ∧ iv = .int .i64 k ∧ dv = .bool dn ∧ o.length ≤ k + 1 ∧ wr.ownsRow w.heap.size 3 1 v o.length (o.map i64V) ∧ Below w.heap.size w wr ∧ (dn = true → insI m l = o ++ l.drop k) ∧ (dn = false → o = l.take k ∧ insI m l = l.take k ++ insI m (l.drop k))) (fun _ _ iv _ => n - (intOf iv).toNat)
  case atStart => exact ⟨0, [], false, by omega, rfl, rfl, by simp, ⟨rfl, .inl ⟨rfl, rfl⟩⟩, Below.refl _ _, (fun e => by cases e), fun _ => ⟨rfl, rfl⟩⟩
  case round =>
    obtain ⟨k, o, dn, hk, rfl, rfl, hol, hO, hB, hT, hF⟩ := hrel
    have HO := Lib.hid hO
    have HB := Lib.hid hB
    have HT := Lib.hid hT
    have HF := Lib.hid hF
    have hbz := hB.size
    clear hO hB hT hF
    obtain ⟨Av, cv, rfl, hcv⟩ := own_cap HO.out
    rcases Nat.lt_or_ge k n with hlt | hge
    · have hlt' : (k : Int) < (n : Int) := by omega
      have p0 : (0 : Int) ≤ (k : Int) := by omega
      have hw5 : IntKind.i64.wrap ((k : Int) + 1) = (k : Int) + 1 := IntWalk.i64_in _ (by omega)
      obtain ⟨pa, x, rfl, hx, a0, -, -⟩ := (HL.out.below HB.out).at k hlt
      have HDT := Lib.hid (drop_this hx)
      have HTT := Lib.hid (take_this hx)
      have HST : Hid (∀ u, Below w.heap.size w u → u.cell? (pa.add k) = some (.int .i64 x)) := Lib.hid (fun u hu => by
        obtain ⟨pa', x', e1, e2, e3, -, -⟩ := (HL.out.below hu).at k hlt
        obtain rfl := Option.some.inj e1
        obtain rfl := Option.some.inj (hx.symm.trans e2)
        exact e3)
      clear hx
      cases dn with
      | true =>
        have HFN : Hid (insI m l = (o ++ [x]) ++ l.drop (k + 1)) := Lib.hid (by rw [HT.out rfl, HDT.out]; simp)
        go_wp2_with (at_builtin; refine wpList_append_src _ rfl (.tmp 34) (.tmp 39) 33 rfl w.heap.size 3 i0 (.int .i64 0) 8 Try.underlying33 hi hz0 hz1 hz2 rfl _ o.length _ rfl (World.ownsRow.alloc HO.out _) _ 1 1 _ rfl (one_int_src _ 3 x) (i64V_one [x]) (by unfold maxLen; omega) (by omega) (by have := HB.out.size; simp; omega) ?_; intro v3 w9 hown hgrow _; have HO9 := Lib.hid hown; have HB9 := Lib.hid ((HB.out.alloc HB.out.size _).grown hgrow (by have := HB.out.size; simp; omega) (fun g hg => (HO.out.lt g hg).1)); clear hown hgrow)
        go_roundw
        case rel => exact ⟨k + 1, o ++ [x], true, by omega, by go_num, rfl, by simp; omega, by simpa using HO9.out, HB9.out, fun _ => HFN.out, fun e => by cases e⟩
        case measure => simp [intOf]; omega
      | false =>
        by_cases hxm : m ≤ x
        · have d1 : decide (m ≤ x) = true := decide_eq_true hxm
          by_cases hxe : m < x
          · have d2 : decide (m < x) = true := decide_eq_true hxe
            have HOL : Hid (o.length ≤ k) := Lib.hid (by rw [(HF.out rfl).1, List.length_take]; omega)
            have HFN : Hid (insI m l = ((o ++ [m]) ++ [x]) ++ l.drop (k + 1)) := Lib.hid (by
              obtain ⟨h1, h2⟩ := HF.out rfl
              rw [h2, HDT.out, insI_cons, if_neg (by omega), if_neg (by omega), h1]
              simp)
            go_upto_region 10 with (at_builtin; refine wpList_append_src _ rfl (.tmp 30) (.tmp 32) 33 rfl w.heap.size 3 i0 (.int .i64 0) 8 Try.underlying33 hi hz0 hz1 hz2 rfl _ o.length _ rfl (World.ownsRow.alloc HO.out _) _ 1 1 _ rfl (one_int_src _ 3 m) (i64V_one [m]) (by unfold maxLen; omega) (by omega) (by have := HB.out.size; simp; omega) ?_; intro v3 w9 hown hgrow _; have HO9 := Lib.hid hown; have HB9 := Lib.hid ((HB.out.alloc HB.out.size _).grown hgrow (by have := HB.out.size; simp; omega) (fun g hg => (HO.out.lt g hg).1)); clear hown hgrow)
            obtain ⟨A9, c9, rfl, -⟩ := own_cap HO9.out
            have a9 := HST.out w9 HB9.out
            have b9 := HB9.out.size
            go_wp2_with (at_builtin; refine wpList_append_src _ rfl (.tmp 34) (.tmp 39) 33 rfl w.heap.size 3 i0 (.int .i64 0) 8 Try.underlying33 hi hz0 hz1 hz2 rfl _ (o.length + 1) _ rfl (World.ownsRow.alloc HO9.out _) _ 1 1 _ rfl (one_int_src _ 3 x) (i64V_one [x]) (by unfold maxLen; omega) (by omega) (by simp; omega) ?_; intro v4 w10 hown hgrow _; have HO10 := Lib.hid hown; have HB10 := Lib.hid ((HB9.out.alloc b9 _).grown hgrow (by simp; omega) (fun g hg => (HO9.out.lt g hg).1)); clear hown hgrow)
            go_roundw
            case rel => exact ⟨k + 1, (o ++ [m]) ++ [x], true, by omega, by go_num, rfl, by have h2 := HOL.out; simp; omega, by simpa using HO10.out, HB10.out, fun _ => HFN.out, fun e => by cases e⟩
            case measure => simp [intOf]; omega
          · have d2 : decide (m < x) = false := decide_eq_false hxe
            have HFN : Hid (insI m l = (o ++ [x]) ++ l.drop (k + 1)) := Lib.hid (by
              obtain ⟨h1, h2⟩ := HF.out rfl
              rw [h2, HDT.out, insI_cons, if_neg (by omega), if_pos (by omega), h1]
              simp)
            go_wp2_with (at_builtin; refine wpList_append_src _ rfl (.tmp 34) (.tmp 39) 33 rfl w.heap.size 3 i0 (.int .i64 0) 8 Try.underlying33 hi hz0 hz1 hz2 rfl _ o.length _ rfl (World.ownsRow.alloc HO.out _) _ 1 1 _ rfl (one_int_src _ 3 x) (i64V_one [x]) (by unfold maxLen; omega) (by omega) (by have := HB.out.size; simp; omega) ?_; intro v3 w9 hown hgrow _; have HO9 := Lib.hid hown; have HB9 := Lib.hid ((HB.out.alloc HB.out.size _).grown hgrow (by have := HB.out.size; simp; omega) (fun g hg => (HO.out.lt g hg).1)); clear hown hgrow)
            go_roundw
            case rel => exact ⟨k + 1, o ++ [x], true, by omega, by go_num, rfl, by simp; omega, by simpa using HO9.out, HB9.out, fun _ => HFN.out, fun e => by cases e⟩
            case measure => simp [intOf]; omega
        · have d1 : decide (m ≤ x) = false := decide_eq_false hxm
          have HFN : Hid (o ++ [x] = l.take (k + 1) ∧ insI m l = l.take (k + 1) ++ insI m (l.drop (k + 1))) := Lib.hid (by
            obtain ⟨h1, h2⟩ := HF.out rfl
            refine ⟨by rw [HTT.out, h1], ?_⟩
            rw [h2, HDT.out, insI_cons, if_pos (by omega), HTT.out]
            simp)
          go_wp2_with (at_builtin; refine wpList_append_src _ rfl (.tmp 34) (.tmp 39) 33 rfl w.heap.size 3 i0 (.int .i64 0) 8 Try.underlying33 hi hz0 hz1 hz2 rfl _ o.length _ rfl (World.ownsRow.alloc HO.out _) _ 1 1 _ rfl (one_int_src _ 3 x) (i64V_one [x]) (by unfold maxLen; omega) (by omega) (by have := HB.out.size; simp; omega) ?_; intro v3 w9 hown hgrow _; have HO9 := Lib.hid hown; have HB9 := Lib.hid ((HB.out.alloc HB.out.size _).grown hgrow (by have := HB.out.size; simp; omega) (fun g hg => (HO.out.lt g hg).1)); clear hown hgrow)
          go_roundw
          case rel => exact ⟨k + 1, o ++ [x], false, by omega, by go_num, rfl, by simp; omega, by simpa using HO9.out, HB9.out, (fun e => by cases e), fun _ => HFN.out⟩
          case measure => simp [intOf]; omega
    · obtain rfl : k = n := by omega
      have hlz : ¬ ((k : Int) < (k : Int)) := by omega
      cases dn with
      | true =>
        have HFN : Hid (insI m l = o) := Lib.hid (by rw [HT.out rfl, List.drop_of_length_le (by rw [HLN.out]; exact Nat.le_refl _), List.append_nil])
        go_wp2
        go_ret
        rw [HFN.out]
        exact ⟨_, rfl, HO.out, HB.out⟩
      | false =>
        have HFN : Hid (insI m l = o ++ [m]) := Lib.hid (by
          obtain ⟨h1, h2⟩ := HF.out rfl
          rw [h2, List.drop_of_length_le (by rw [HLN.out]; exact Nat.le_refl _), h1]
          rfl)
        go_wp2_with (at_builtin; refine wpList_append_src _ rfl (.tmp 43) (.tmp 45) 33 rfl w.heap.size 3 i0 (.int .i64 0) 8 Try.underlying33 hi hz0 hz1 hz2 rfl _ o.length _ rfl (World.ownsRow.alloc HO.out _) _ 1 1 _ rfl (one_int_src _ 3 m) (i64V_one [m]) (by unfold maxLen; omega) (by omega) (by have := HB.out.size; simp; omega) ?_; intro v3 w9 hown hgrow _; have HO9 := Lib.hid hown; have HB9 := Lib.hid ((HB.out.alloc HB.out.size _).grown hgrow (by have := HB.out.size; simp; omega) (fun g hg => (HO.out.lt g hg).1)); clear hown hgrow)
        go_ret
        rw [HFN.out]
        exact ⟨_, rfl, by simpa using HO9.out, HB9.out⟩
end Go.Proofs.Ytmnofmcfkchebaa
