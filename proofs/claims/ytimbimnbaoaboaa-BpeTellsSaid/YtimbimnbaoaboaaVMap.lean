/- The maps of a growing vocabulary: which token a text is, which pairs have a merge. -/
import Derived.Test.YtimbimnbaoaboaaKPairs
import Derived.Test.YtimbimnbaoaboaaVRef1
import Derived.DeepKeys4
import Derived.MapViews
import Derived.Maps.OwnSet
namespace Go.Proofs.Ytimbimnbaoaboaa
open Go.RowKit Go.Maps Go.WideMaps

theorem strLaw : Keyed Try.prog 9 := string_keyed Try.underlying9
theorem rowPair : (49 : TypeId) < Try.prog.types.size := of_decide_eq_true (by kernel_rfl)
theorem widePair : (match Try.prog.underlying 49 with | some (.array _ _) | some (.struct _) => true | _ => false) = true := by kernel_rfl
set_option maxRecDepth 100000 in
theorem pairKeyLaw : KeyLaw Try.prog 49 := deep_law_laid laidOut (m := 3) (by omega) rowPair (by kernel_rfl) widePair
theorem pairLaw : Keyed Try.prog 49 := Keyed.of_law pairKeyLaw
/-- What a pair reads as. -/
def pk (a b : Int) : Lit := .string (keyBytes [.int .i64 a, .int .i64 b])
theorem keyOf_pairs {a b : Int} (ha : fits64 a) (hb : fits64 b) : keyOf Try.prog 49 (.agg #[.int .i64 a, .int .i64 b]) = some (pk a b) := by
  have wa : (Lit.int .i64 a).wf = true := WalkArith.wf_i64 ha
  have wb : (Lit.int .i64 b).wf = true := WalkArith.wf_i64 hb
  have hu := Try.underlying49
  have hk : Try.prog.keyType 49 = true := by kernel_rfl
  have hc : Try.prog.cellsOf 49 = 2 := by kernel_rfl
  have hi : Try.prog.cellsOf 3 = 1 := by kernel_rfl
  have hsz : ∃ m, Try.prog.types.size = m + 1 := ⟨_, (Nat.sub_add_cancel (Nat.lt_of_le_of_lt (Nat.zero_le _) rowPair)).symm⟩
  obtain ⟨m, hm⟩ := hsz
  unfold keyOf
  simp only [hu]
  rw [if_pos (by simp [hk, Value.formed, hu, hc]), hm]
  unfold Program.keyLits
  simp only [hu, Value.cells]
  rw [if_pos ⟨by rw [hc]; rfl, by simp⟩]
  simp [hi, Program.keyLits, Try.underlying3, wa, wb, pk]
theorem pk_inj {a b a' b' : Int} (ha : fits64 a) (hb : fits64 b) (ha' : fits64 a') (hb' : fits64 b') (h : pk a b = pk a' b') : a = a' ∧ b = b' := by
  have e := pairKeyLaw.inj (keyOf_pairs ha hb) (by rw [h]; exact keyOf_pairs ha' hb')
  simpa using e
theorem unitZero (w : World) : (zeroValue 94).run Try.prog w = .ok (.agg #[]) w := by kernel_rfl
theorem intZero (w : World) : (zeroValue 3).run Try.prog w = .ok (.int .i64 0) w := by kernel_rfl

/-- Which token a text is. -/
def atTok (L : List Nm) (s : Nm) : Int := if 0 ≤ findT L s then findT L s else 0
structure TokMap (D : DataW Unit) (L : List Nm) : Prop where
  isMap : IsMap D
  has : ∀ s : Nm, Maps.has D (.string s) = decide (0 ≤ findT L s)
  at_ : ∀ s : Nm, D.atKey (.string s) (.lit (.int .i64 0)) = .lit (.int .i64 (atTok L s))
structure PairMap (D : DataW Unit) (M : List Mg) : Prop where
  isMap : IsMap D
  has : ∀ a b, fits64 a → fits64 b → Maps.has D (pk a b) = mergedB M a b
theorem TokMap.nil : TokMap (.map []) [] := ⟨isMap_empty, fun _ => rfl, fun _ => rfl⟩
theorem PairMap.nil : PairMap (.map []) [] := ⟨isMap_empty, fun _ _ _ _ => rfl⟩
theorem findT_snoc {L : List Nm} {x : Nm} (h : findT L x < 0) (s : Nm) : findT (L ++ [x]) s = if s = x then (L.length : Int) else findT L s := by
  split
  · rename_i e
    subst e
    rcases findT_cases L s with ⟨_, hn⟩ | ⟨i, hi, _⟩
    · exact findT_at (by simp) fun j y hj hy => by
        rw [List.getElem?_append_left hj] at hy
        exact hn y (List.mem_of_getElem? hy)
    · omega
  · rename_i e
    rcases findT_cases L s with ⟨h1, hn⟩ | ⟨i, hi, hx, hn⟩
    · rw [h1]
      exact findT_none fun y hy => by
        rcases List.mem_append.1 hy with hy | hy
        · exact hn y hy
        · rw [List.mem_singleton.1 hy]; exact fun e2 => e e2.symm
    · have hlt := (List.getElem?_eq_some_iff.1 hx).1
      rw [hi]
      exact findT_at (by rw [List.getElem?_append_left hlt]; exact hx) fun j y hj hy => by
        rw [List.getElem?_append_left (by omega)] at hy
        exact hn j y hj hy
theorem isKeyStr (s : Nm) : WideAt.IsKeyLit (.string s) := trivial
theorem TokMap.put {D : DataW Unit} {L : List Nm} (h : TokMap D L) {x : Nm} (hx : findT L x < 0) : TokMap (D.put (.string x) (.lit (.int .i64 (L.length : Nat)))) (L ++ [x]) := by
  refine ⟨h.isMap.put _ _, fun s => ?_, fun s => ?_⟩
  · rw [findT_snoc hx]
    by_cases e : s = x
    · subst e
      rw [has_put_same h.isMap (isKeyStr s), if_pos rfl, decide_eq_true (by omega)]
    · rw [has_put_other (fun e2 => e (by injection e2)), if_neg e, h.has]
  · unfold atTok
    rw [findT_snoc hx]
    by_cases e : s = x
    · subst e
      rw [atKey_put_same h.isMap (isKeyStr s), if_pos rfl, if_pos (by omega)]
    · rw [atKey_put_other (fun e2 => e (by injection e2)), if_neg e, h.at_]
      rfl
theorem mergedB_snoc (M : List Mg) (m : Mg) (a b : Int) : mergedB (M ++ [m]) a b = (mergedB M a b || ((m.a == a) && (m.b == b))) := by
  unfold mergedB
  simp [List.any_append]
theorem PairMap.put {D : DataW Unit} {M : List Mg} (h : PairMap D M) {m : Mg} (ha : fits64 m.a) (hb : fits64 m.b) (d : DataW Unit) : PairMap (D.put (pk m.a m.b) d) (M ++ [m]) := by
  refine ⟨h.isMap.put _ _, fun a b fa fb => ?_⟩
  rw [mergedB_snoc]
  by_cases e : pk a b = pk m.a m.b
  · obtain ⟨rfl, rfl⟩ := pk_inj fa fb ha hb e
    rw [has_put_same h.isMap (show WideAt.IsKeyLit (pk m.a m.b) from trivial)]
    simp
  · rw [has_put_other e, h.has a b fa fb]
    have : ((m.a == a) && (m.b == b)) = false := by
      rw [Bool.eq_false_iff]
      intro e2
      simp at e2
      exact e (by rw [← e2.1, ← e2.2])
    rw [this, Bool.or_false]
abbrev tokAt (w : World) (b n : Nat) (D : DataW Unit) : Prop := w.ownsMap Try.prog 9 (plainElem Try.prog 3) b n D
abbrev pairAt (w : World) (b n : Nat) (D : DataW Unit) : Prop := w.ownsMap Try.prog 49 unitElem b n D
theorem tok_look {w : World} {b n : Nat} {D : DataW Unit} {L : List Nm} (h : tokAt w b n D) (hT : TokMap D L) (s : Nm) (hs : s.length ≤ maxLen) :
    (Instr.lookup 86 (.map (some b)) (.string ⟨s.toArray⟩) true).run Try.prog w = .ok (.tuple #[.int .i64 (atTok L s), .bool (decide (0 ≤ findT L s))]) w := by
  have hkey : keyOf Try.prog 9 (.string ⟨s.toArray⟩) = some (.string s) := by
    have := keyOf_string_mk Try.underlying9 (s := ⟨s.toArray⟩) (by simpa [ByteArray.size] using hs)
    simpa using this
  obtain ⟨v, ps, hrun, hv⟩ := h.look_ok strLaw Try.underlying86 (intZero _) (plainElem_int Try.underlying3 (by decide)) hkey
  obtain ⟨c, rfl, hc, _⟩ := plainElem_int_inv Try.underlying3 hv
  rw [hT.has] at hrun
  rw [hT.at_] at hc
  simp only [Prod.mk.injEq, DataW.lit.injEq, Lit.int.injEq, true_and] at hc
  rw [hrun, hc.1]
theorem pair_look {w : World} {b n : Nat} {D : DataW Unit} {M : List Mg} (h : pairAt w b n D) (hP : PairMap D M) {x y : Int} (hx : fits64 x) (hy : fits64 y) :
    (Instr.lookup 87 (.map (some b)) (.agg #[.int .i64 x, .int .i64 y]) true).run Try.prog w = .ok (.tuple #[.agg #[], .bool (mergedB M x y)]) w := by
  obtain ⟨v, ps, hrun, hv⟩ := h.look_ok pairLaw Try.underlying87 (unitZero _) unitElem_mk (keyOf_pairs hx hy)
  obtain ⟨rfl, _⟩ := unitElem_inv hv
  rw [hP.has x y hx hy] at hrun
  exact hrun
end Go.Proofs.Ytimbimnbaoaboaa
