/- The landed sets keep what the laws ask. -/
import Derived.Test.YtkligdaademakaaSoOrs
import Derived.Test.YtkligdaademakaaSoGather
namespace Go.Proofs.Ytkligdaademakaa
open Go.RowKit Go.Maps Go.WideMaps Go.Shelf

theorem made_set {Leaf : MvP} {k : Nat} {w : World} {F G : Nat → Prop} {l : List Int} (e : Ending) (w' : World) (h : SetMade (QD Leaf k) w F l e w') : SetOut (S0 Leaf) w F G l e w' := by
  obtain ⟨b, F', rfl, h1, h2, h3⟩ := h
  exact ⟨_, F', rfl, ⟨k, h1⟩, h2, h3⟩
theorem setsOk_of {Leaf : MvP} (hL : MovesOk Leaf) : SetsOk (S0 Leaf) where
  keep := by
    rintro w w' F G p l ⟨k, h⟩ hk hs
    exact ⟨k, h.keep (qd_ok hL k) (fun b hb => hk b (.inl hb)) hs⟩
  more := by
    rintro w F G G' p l ⟨k, h⟩ _
    exact ⟨k, h⟩
  lt := by
    rintro w F G p l ⟨k, h⟩
    exact h.lt
  rise := by
    rintro w F G p l ⟨k, h⟩
    exact ⟨h.up.up, h.up.most⟩
  nil := by
    rintro w F G l ⟨k, ⟨_, h, _⟩ | ⟨b, a, m, fv, h, _⟩⟩
    · exact h
    · cases h
  none := fun w G => ⟨0, .inl ⟨rfl, rfl, fun i hi => hi.elim⟩⟩
  list := fun w G A n c l hl hc hn _ _ => (seList_any (Q := QD Leaf 1) (qd_ok hL 1) (fun h => .inr (.inl h)) w A n c l hl (by omega)).mono made_set
  all := fun w G n hn h0 _ => (seAll_any (Q := QD Leaf 1) (qd_ok hL 1) (fun h => .inr (.inr (.inl h))) w n hn h0).mono made_set
  and := fun w G F A n c X h hc hn => by
    obtain ⟨k, hk⟩ := s0_common X h.each
    exact (seAnd_any hL (qd_ok hL k) w F A n c X ⟨hk, h.apart⟩ h.inF h.lt h.cells (fun ad e h0 => h.lt _ (h.row ad e h0).1) (by omega)).mono fun e w' q => made_set (k := k + 1) e w' q
  or := fun w G F A n c X h hc hn => by
    obtain ⟨k, hk⟩ := s0_common X h.each
    refine (or_ok hL n w F A c X k ⟨hk, h.apart⟩ h.inF h.lt h.cells (fun ad e h0 => ⟨h.lt _ (h.row ad e h0).1, (h.row ad e h0).2⟩) hc (by omega)).mono ?_
    rintro e w' ⟨j, q⟩
    exact made_set e w' q
  less := fun w G F1 F2 p q a b ha hb hd hG => by
    obtain ⟨k, hk⟩ := s0_common (Leaf := Leaf) (w := w) (G := G) [⟨p, a, F1⟩, ⟨q, b, F2⟩] (fun x hx => by
      simp only [List.mem_cons, List.not_mem_nil, or_false] at hx
      rcases hx with rfl | rfl
      · exact ha
      · exact hb)
    refine (seLess_any hL (qd_ok hL k) w (fun i => F1 i ∨ F2 i) ⟨p, a, F1⟩ ⟨q, b, F2⟩ ⟨hk, by simpa using hd⟩ (fun v hv i hi => ?_) (fun i hi => ?_)).mono fun e w' q => made_set (k := k + 1) e w' q
    · simp only [List.mem_cons, List.not_mem_nil, or_false] at hv
      rcases hv with rfl | rfl
      · exact .inl hi
      · exact .inr hi
    · rcases hi with hi | hi
      · exact (hk ⟨p, a, F1⟩ (by simp)).lt i hi
      · exact (hk ⟨q, b, F2⟩ (by simp)).lt i hi
  gather := by
    rintro w F G p l ⟨k, h⟩ _ hn
    exact seGather_any (qd_ok hL k) w F p l h hn
  doc := by
    rintro w F G a l ⟨k, h⟩ _
    refine (seDoc_any h).mono ?_
    rintro e w' ⟨rfl, rfl⟩
    exact ⟨rfl, F, ⟨k, h⟩, Kept.refl _ _, fun i hi => .inl hi⟩
  next := by
    rintro w F G a l ⟨k, h⟩ _
    refine (seNext_any (qd_ok hL k) h).mono ?_
    rintro e w' ⟨rfl, F', h1, h2⟩
    exact ⟨rfl, F', ⟨k, h1⟩, h2⟩
  skip := by
    rintro w F G a l d ⟨k, h⟩ _ hd
    refine (seSkip_any (qd_ok hL k) h d hd).mono ?_
    rintro e w' ⟨rfl, F', h1, h2⟩
    exact ⟨rfl, F', ⟨k, h1⟩, h2⟩
theorem setsOk : SetsOk (S0 NoMv) := setsOk_of noMv_ok
end Go.Proofs.Ytkligdaademakaa
