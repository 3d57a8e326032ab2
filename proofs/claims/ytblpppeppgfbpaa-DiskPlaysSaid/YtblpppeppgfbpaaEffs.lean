/- What a change does to a directory: the three closures' bodies; and a change done and kept. -/
import Derived.Test.YtblpppeppgfbpaaAct
namespace Go.Proofs.Ytblpppeppgfbpaa
open Go.RowKit Go.Maps Go.WideMaps

theorem dirAt_fix {w : World} {b n : Nat} {d : Dir} (h : w.ownsMap Try.prog 9 ptrElem b n (toD d)) (hl : d.length ≤ 300) : dirAt w b d := by
  have := ownsMap_tight h
  rw [toD_size] at this
  exact this.mono hl

theorem keyLit {k : Nm} (hk : k.length ≤ 281474976710656) : keyOf Try.prog 9 (encStr k) = some (.string k) := by
  have := keyOf_string_mk Try.underlying9 (s := ⟨k.toArray⟩) (show k.toArray.size ≤ maxLen by unfold maxLen; simp; omega)
  simpa [encStr] using this

set_option maxHeartbeats 400000 in
theorem create_eff {w : World} {b bf bk i : Nat} {d : Dir} {k : Nm} (h : dirAt w b d) (hl : d.length ≤ 200) (hf : Blk w bf 62 #[at0 i]) (hk : Blk w bk 9 #[encStr k]) (hkl : k.length ≤ 281474976710656) :
    Calls Try.prog 53 #[.map (some b), at0 bf, at0 bk] w fun e w' => e = .returned (.tuple #[]) ∧ dirAt w' b (dput d k i) ∧ w.grownBy w' (some b) := by
  have cf := hf.cell 0
  have ck := hk.cell 0
  have hkey := keyLit hkl
  simp [at0] at cf
  simp [encStr] at ck hkey
  unfold at0
  go_enter Try.func53, Try.ntmps53
  go_wp2_with (at_mapUpdate; refine wpList_mapUpdate_own _ rfl _ _ _ 67 rfl 9 62 strLaw Try.underlying67 ptrElem b 300 (toD d) rfl h (by unfold maxLen; omega) _ _ (.string k) rfl rfl hkey (idLit i) [] rfl ?_; intro w1 hown1 hgrow1)
  go_end0
  rw [toD_put] at hown1
  exact ⟨rfl, dirAt_fix hown1 (by have := length_dput d k i; omega), hgrow1⟩

set_option maxHeartbeats 1000000 in
set_option maxRecDepth 100000 in
theorem remove_eff {w : World} {b bk : Nat} {d : Dir} {k : Nm} (h : dirAt w b d) (hl : d.length ≤ 300) (hk : Blk w bk 9 #[encStr k]) (hkl : k.length ≤ 281474976710656) :
    Calls Try.prog 68 #[.map (some b), at0 bk] w fun e w' => e = .returned (.tuple #[]) ∧ dirAt w' b (ddel d k) ∧ w.grownBy w' (some b) := by
  have ck := hk.cell 0
  have hkey := keyLit hkl
  simp [encStr] at ck hkey
  unfold at0
  go_enter Try.func68, Try.ntmps68
  go_wp2_with (at_delete; refine wpList_delete_own _ rfl _ _ 67 9 rfl 62 strLaw Try.underlying67 ptrElem b 300 (toD d) rfl h _ (.string k) rfl hkey ?_; intro w1 hown1 hturn1)
  go_end0
  rw [toD_del] at hown1
  exact ⟨rfl, dirAt_fix hown1 (by have := length_ddel d k; omega), hturn1.grown⟩

set_option maxHeartbeats 1000000 in
set_option maxRecDepth 100000 in
theorem rename_eff {w : World} {b ba bb i : Nat} {d : Dir} {x y : Nm} (h : dirAt w b d) (hl : d.length ≤ 200) (hi : dget d x = some i) (ha : Blk w ba 9 #[encStr x]) (hb : Blk w bb 9 #[encStr y]) (hx : x.length ≤ 281474976710656) (hy : y.length ≤ 281474976710656) :
    Calls Try.prog 66 #[.map (some b), at0 ba, at0 bb] w fun e w' => e = .returned (.tuple #[]) ∧ dirAt w' b (ddel (dput d y i) x) ∧ w.grownBy w' (some b) := by
  have ca := ha.cell 0
  have cb := hb.cell 0
  have hkx := keyLit hx
  have hky := keyLit hy
  have hlk := look_at h (nm := ⟨x.toArray⟩) (by show x.toArray.size ≤ maxLen; unfold maxLen; simp; omega)
  simp only [hi, ptrOf, at0] at hlk
  simp [encStr] at ca cb hkx hky
  have nba : b ≠ ba := (ha.ne_map h).symm
  have cm : ∀ w1 : World, w.grownBy w1 (some b) → w1.cell? ⟨ba, 0, none⟩ = some (.string ⟨x.toArray⟩) := fun w1 hg => by
    have := (ha.grown hg (by simp; omega)).cell 0
    simpa [encStr] using this
  have CM := Lib.hid cm; clear cm
  unfold at0
  go_enter Try.func66, Try.ntmps66
  go_wp2_with (first
    | (at_mapUpdate; refine wpList_mapUpdate_own _ rfl _ _ _ 67 rfl 9 62 strLaw Try.underlying67 ptrElem b 300 (toD d) rfl h (by unfold maxLen; omega) _ _ (.string y) rfl rfl hky (idLit i) [] rfl ?_; intro w1 hown1 hgrow1; have c2 := CM.out w1 hgrow1)
    | (at_delete; refine wpList_delete_own _ rfl _ _ 67 9 rfl 62 strLaw Try.underlying67 ptrElem b 301 ((toD d).put (.string y) (idLit i)) rfl hown1 _ (.string x) rfl hkx ?_; intro w2 hown2 hturn2))
  go_end0
  rw [toD_put, toD_del] at hown2
  exact ⟨rfl, dirAt_fix hown2 (by have := length_ddel (dput d y i) x; have := length_dput d y i; omega), World.grownBy.trans hgrow1 hturn2.grown⟩
end Go.Proofs.Ytblpppeppgfbpaa
