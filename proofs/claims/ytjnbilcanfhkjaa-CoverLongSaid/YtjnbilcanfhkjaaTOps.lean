/- The contracts of add, kid, list. -/
import Derived.Test.YtjnbilcanfhkjaaTStep
import Derived.Test.YtjnbilcanfhkjaaTWords
import Derived.Shelf.SlMaps.Clone
import Derived.Deep.DeepCutAuto
namespace Go.Proofs.Ytjnbilcanfhkjaa
open Go.RowKit Go.Maps Go.WideMaps

theorem addI_nil (i : Int) : addI i [] = [i] := rfl
theorem addI_snoc (i x : Int) (l : List Int) : addI i (l ++ [x]) = if x < i then l ++ [x] ++ [i] else l ++ [x] := by
  unfold addI
  rw [List.getLast?_concat]

theorem row_not_home {w : World} {T : Lay} {k : Key} {g o M : Nat} {xs : List Int} {v mv : Value} (hn : NodeAt w T k g o xs M v mv) : v.ownBlock ≠ some g := fun e => by
  have := hn.row g e
  rw [hn.home] at this
  injection this with this
  exact homeOf_ne.1 this
theorem row_kept_cell {w w3 : World} {b : Nat} {T : Lay} {X : Key → List Int} {M : Nat} {k : Key} {g o n c : Nat} {A : Option Addr} {xs : List Int} {mv : Value} {tmp : Obj} (hF : Forest w b T X M)
    (hn : NodeAt w T k g o xs M (.slice A xs.length c) mv) (hnl : n = xs.length) (hg : (w.alloc tmp).grownBy w3 (Value.ownBlock (.slice A n c))) : w3.cell? ⟨g, o, none⟩ = some (.slice A n c) := by
  subst hnl
  have hgl := hF.lt g _ hn.home
  rw [World.cell?_of_block ((hg.block g (by simp; omega) fun e => row_not_home hn e.symm).trans (Below.heap_alloc w tmp g hgl))]
  exact hn.c0
theorem row_kept_frozen {w w3 : World} {b : Nat} {T : Lay} {X : Key → List Int} {M : Nat} {k : Key} {g o n c : Nat} {A : Option Addr} {xs : List Int} {mv : Value} {tmp : Obj} (hF : Forest w b T X M)
    (hn : NodeAt w T k g o xs M (.slice A xs.length c) mv) (hnl : n = xs.length) (hg : (w.alloc tmp).grownBy w3 (Value.ownBlock (.slice A n c))) : w3.frozen? ⟨g, o, none⟩ = false := by
  subst hnl
  have hgl := hF.lt g _ hn.home
  rw [World.frozen?_of_block ((hg.block g (by simp; omega) fun e => row_not_home hn e.symm).trans (Below.heap_alloc w tmp g hgl))]
  exact hn.f0

set_option maxHeartbeats 4000000 in
set_option maxRecDepth 100000 in
theorem add_any {w : World} {b : Nat} {T : Lay} {X : Key → List Int} {M : Nat} (hF : Forest w b T X M) {k : Key} {g o : Nat} (hk : T.ad k = some (g, o)) (i : Nat) (hM : M ≤ 10000000) :
    Calls Try.prog 47 #[.pointer (some ⟨g, o, none⟩), .int .i64 i] w fun e w' => (∃ v, e = .returned v) ∧ ∃ T', Forest w' b T' (upd X k (addI i (X k))) (M + 1) ∧ Ext w T T' ∧ Kept T.foot w w' ∧ T'.ad = T.ad := by
  obtain ⟨i0, hinf, hz0, hz1, hz2⟩ := info_parts intInfoI
  obtain ⟨v, mv, hn⟩ := hF.node k g o hk
  obtain ⟨A, c, rfl⟩ := own_slice hn.own
  have HF := Lib.hid hF
  have HN := Lib.hid hn
  have HO := Lib.hid hn.own
  have HFW := Lib.hid hn.few
  obtain ⟨n, hnl⟩ : ∃ n, n = (X k).length := ⟨_, rfl⟩
  have HNL := Lib.hid hnl
  have c0 : ∀ q, (w.drewN q).cell? ⟨g, o, none⟩ = some (.slice A n c) := fun q => by rw [hnl]; exact hn.c0
  have f0 : ∀ q, (w.drewN q).frozen? ⟨g, o, none⟩ = false := fun q => hn.f0
  have HK := Lib.hid hk
  clear hF hk
  have HFEW := Lib.hid hn.few
  have HN0 := Lib.hid HNL.out
  rcases List.eq_nil_or_concat (X k) with hX | ⟨l, x, hX⟩
  · have hn0 : n = 0 := by rw [hnl, hX]; rfl
    have HXE : Hid (addI i (X k) = X k ++ [(i : Int)]) := Lib.hid (by rw [hX]; rfl)
    clear hn hX hnl
    subst hn0
    go_enter Try.func47, Try.ntmps47
    go_wp2
    go_quiet (fail)
    obtain ⟨W, hW⟩ : ∃ W, W = w.drewN nq := ⟨_, rfl⟩
    rw [← hW]
    have HFW : Hid (Forest W b T X M) := Lib.hid (by rw [hW]; exact HF.out.drewN nq)
    have HNW : Hid (NodeAt W T k g o (X k) M (.slice A (X k).length c) mv) := Lib.hid (by
      rw [hW]
      have h := HN.out
      exact h.keep (Nat.le_refl _) (fun _ _ => rfl) (fun _ _ => rfl) (fun _ _ => rfl) (fun _ _ => rfl) (fun _ _ e => e) fun _ => rfl)
    have HEW : Hid (Kept T.foot w W ∧ W.heap.size = w.heap.size) := Lib.hid (by rw [hW]; exact ⟨(Kept.refl _ _).drewN nq, rfl⟩)
    have cW : W.cell? ⟨g, o, none⟩ = some (.slice A 0 c) := by rw [hW]; exact c0 nq
    have fW : W.frozen? ⟨g, o, none⟩ = false := by rw [hW]; exact f0 nq
    have HOW : Hid (W.ownsRow 0 3 1 (.slice A 0 c) 0 ((X k).map i64V)) := Lib.hid (by have := HNW.out.own; rw [← HNL.out] at this; exact this)
    clear hW c0 f0
    go_wp2_with (at_builtin; refine wpList_append_src _ rfl (.tmp 30) (.tmp 32) 24 rfl 0 3 i0 (.int .i64 0) 8 Try.underlying24 hinf hz0 hz1 hz2 rfl _ (0) _ rfl (World.ownsRow.alloc HOW.out _) _ 1 1 _ rfl (one_int_src _ 3 i) (i64V_one [(i : Int)]) (by unfold maxLen; have := HFEW.out; have := HNL.out; omega) (by have := HFEW.out; have := HNL.out; omega) (Nat.zero_le _) ?_; intro v3 w3 hown hgrow hloc; obtain ⟨A3, cc3, hv3⟩ := own_slice hown; subst hv3; have HO3 := Lib.hid hown; have HG3 := Lib.hid hgrow; have HL3 := Lib.hid hloc; have HGE := Lib.hid (HNW.out.home); have c3 : w3.cell? ⟨g, o, none⟩ = some (.slice A 0 c) := row_kept_cell HFW.out HNW.out HNL.out hgrow; have f3 : w3.frozen? ⟨g, o, none⟩ = false := row_kept_frozen HFW.out HNW.out HNL.out hgrow; clear hown hgrow hloc)
    go_end0
    have hgr : (W.alloc (.cells #[.int .i64 (i : Int)] 3)).grownBy w3 (Value.ownBlock (.slice A (X k).length c)) := by rw [← HNL.out]; exact HG3.out
    have hlc : (Value.slice A3 (0 + 1) cc3).ownBlock = (Value.slice A (X k).length c).ownBlock ∨ (Value.slice A3 (0 + 1) cc3).ownBlock = some (W.alloc (.cells #[.int .i64 (i : Int)] 3)).heap.size := by rw [← HNL.out]; exact HL3.out
    have hon : w3.ownsRow 0 3 1 (.slice A3 (0 + 1) cc3) (X k ++ [(i : Int)]).length ((X k ++ [(i : Int)]).map i64V) := by rw [List.length_append, List.map_append, ← HNL.out]; exact HO3.out
    refine ⟨⟨_, rfl⟩, ?_⟩
    obtain ⟨T', h1, h2, h3, h4⟩ := HFW.out.added HK.out HNW.out hgr (l := X k ++ [(i : Int)]) (by have := HFEW.out; simp; omega) hon hlc
    rw [HXE.out]
    have hsz := HEW.out.2
    exact ⟨T', h1, ⟨h2.lab, fun j r e => by have := h2.new j r e; rw [hsz] at this; exact this, h2.ad⟩, HEW.out.1.trans h3 fun _ _ h => h, h4⟩
  · obtain ⟨p, hp⟩ : ∃ p, n = p + 1 := ⟨l.length, by rw [hnl, hX]; simp⟩
    have hpl : l.length = p := by rw [hnl, hX] at hp; simpa using hp
    have d1 : ((n : Int) == 0) = false := by simp; omega
    have hw1 : IntKind.i64.wrap ((n : Int) - 1) = (p : Int) := by rw [show (n : Int) - 1 = (p : Int) by omega]; exact IntWalk.i64_in _ (by have := hn.few; omega)
    have hpn : (p : Int) < (n : Int) := by omega
    have hp0 : (0 : Int) ≤ (p : Int) := by omega
    have hsrc := src_of_own hn.own
    obtain ⟨ad, rfl⟩ : ∃ ad, A = some ad := by
      cases A with
      | none => have := hsrc.nil rfl; omega
      | some ad => exact ⟨ad, rfl⟩
    have hcl := hsrc.cells ad rfl p (.int .i64 x) (by rw [hX, ← hpl]; simp [i64V])
    have hcq : ∀ q, (w.drewN q).cell? (ad.add p) = some (.int .i64 x) := fun q => hcl
    have HHP := Lib.hid hp
    clear hp
    by_cases hlt : x < (i : Int)
    · have d2 : decide (x < (i : Int)) = true := by simpa using hlt
      have HXE : Hid (addI i (X k) = X k ++ [(i : Int)]) := Lib.hid (by rw [hX, List.concat_eq_append, addI_snoc, if_pos hlt])
      clear hn hX hnl hlt hpl hsrc hcl
      go_enter Try.func47, Try.ntmps47
      go_wp2
      go_quiet (fail)
      obtain ⟨W, hW⟩ : ∃ W, W = w.drewN nq := ⟨_, rfl⟩
      rw [← hW]
      have HFW : Hid (Forest W b T X M) := Lib.hid (by rw [hW]; exact HF.out.drewN nq)
      have HNW : Hid (NodeAt W T k g o (X k) M (.slice (some ad) (X k).length c) mv) := Lib.hid (by
        rw [hW]
        have h := HN.out
        exact h.keep (Nat.le_refl _) (fun _ _ => rfl) (fun _ _ => rfl) (fun _ _ => rfl) (fun _ _ => rfl) (fun _ _ e => e) fun _ => rfl)
      have HEW : Hid (Kept T.foot w W ∧ W.heap.size = w.heap.size) := Lib.hid (by rw [hW]; exact ⟨(Kept.refl _ _).drewN nq, rfl⟩)
      have cW : W.cell? ⟨g, o, none⟩ = some (.slice (some ad) n c) := by rw [hW]; exact c0 nq
      have fW : W.frozen? ⟨g, o, none⟩ = false := by rw [hW]; exact f0 nq
      have HOW : Hid (W.ownsRow 0 3 1 (.slice (some ad) n c) n ((X k).map i64V)) := Lib.hid (by have := HNW.out.own; rw [← HNL.out] at this; exact this)
      clear hW c0 f0
      go_wp2_with (at_builtin; refine wpList_append_src _ rfl (.tmp 30) (.tmp 32) 24 rfl 0 3 i0 (.int .i64 0) 8 Try.underlying24 hinf hz0 hz1 hz2 rfl _ (n) _ rfl (World.ownsRow.alloc HOW.out _) _ 1 1 _ rfl (one_int_src _ 3 i) (i64V_one [(i : Int)]) (by unfold maxLen; have := HFEW.out; have := HNL.out; omega) (by have := HFEW.out; have := HNL.out; omega) (Nat.zero_le _) ?_; intro v3 w3 hown hgrow hloc; obtain ⟨A3, cc3, hv3⟩ := own_slice hown; subst hv3; have HO3 := Lib.hid hown; have HG3 := Lib.hid hgrow; have HL3 := Lib.hid hloc; have HGE := Lib.hid (HNW.out.home); have c3 : w3.cell? ⟨g, o, none⟩ = some (.slice (some ad) n c) := row_kept_cell HFW.out HNW.out HNL.out hgrow; have f3 : w3.frozen? ⟨g, o, none⟩ = false := row_kept_frozen HFW.out HNW.out HNL.out hgrow; clear hown hgrow hloc)
      go_end0
      have hgr : (W.alloc (.cells #[.int .i64 (i : Int)] 3)).grownBy w3 (Value.ownBlock (.slice (some ad) (X k).length c)) := by rw [← HNL.out]; exact HG3.out
      have hlc : (Value.slice A3 (n + 1) cc3).ownBlock = (Value.slice (some ad) (X k).length c).ownBlock ∨ (Value.slice A3 (n + 1) cc3).ownBlock = some (W.alloc (.cells #[.int .i64 (i : Int)] 3)).heap.size := by rw [← HNL.out]; exact HL3.out
      have hon : w3.ownsRow 0 3 1 (.slice A3 (n + 1) cc3) (X k ++ [(i : Int)]).length ((X k ++ [(i : Int)]).map i64V) := by rw [List.length_append, List.map_append, ← HNL.out]; exact HO3.out
      refine ⟨⟨_, rfl⟩, ?_⟩
      obtain ⟨T', h1, h2, h3, h4⟩ := HFW.out.added HK.out HNW.out hgr (l := X k ++ [(i : Int)]) (by have := HFEW.out; simp; omega) hon hlc
      rw [HXE.out]
      have hsz := HEW.out.2
      exact ⟨T', h1, ⟨h2.lab, fun j r e => by have := h2.new j r e; rw [hsz] at this; exact this, h2.ad⟩, HEW.out.1.trans h3 fun _ _ h => h, h4⟩
    · have d2 : decide (x < (i : Int)) = false := by simpa using hlt
      have HXE : Hid (addI i (X k) = X k) := Lib.hid (by rw [hX, List.concat_eq_append, addI_snoc, if_neg hlt])
      clear hn hX hnl hlt hpl hsrc hcl
      go_enter Try.func47, Try.ntmps47
      go_wp2
      go_quiet (fail)
      go_wp2
      go_end0
      refine ⟨⟨_, rfl⟩, T, ?_, Ext.refl _ _, (Kept.refl _ _).drewN nq, rfl⟩
      rw [HXE.out, upd_none]
      exact (HF.out.drewN nq).more (Nat.le_succ _)

theorem eqMapNil (w : World) (m : Option Nat) : (binOp .eql 64 (.map m) (.map none)).run Try.prog w = .ok (.bool m.isNone) w := run_eql_map_nil_sl (P := Try.prog) w 64 _ _ m Try.underlying64
theorem eqPtrNil (w : World) (p : Option Addr) : (binOp .eql 86 (.pointer p) (.pointer none)).run Try.prog w = .ok (.bool p.isNone) w := by
  have h : ∀ d : Nat, (Op.equalIn (d + 1) 86 (.pointer p) (.pointer none)).run Try.prog w = .ok p.isNone w := fun d => by
    cases p <;> simp [Op.equalIn, run_underlying Try.underlying86]
  simp only [binOp]
  simp [Op.equal, Op.maxDepth, h 9999]

theorem kid_kept_cell {w w3 : World} {b : Nat} {T : Lay} {X : Key → List Int} {M : Nat} {k : Key} {g o m : Nat} {xs : List Int} {v mv : Value} {tmp : Obj} (hF : Forest w b T X M)
    (hn : NodeAt w T k g o xs M v mv) (hm : T.lab m = some (.map k)) (hg : (w.alloc tmp).grownBy w3 (some m)) : w3.cell? ⟨g, o + 1, none⟩ = some mv := by
  have hgl := hF.lt g _ hn.home
  rw [World.cell?_of_block ((hg.block g (by simp; omega) fun e => by injection e with e; rw [← e, hn.home] at hm; injection hm with hm; exact homeOf_ne.2 hm).trans (Below.heap_alloc w tmp g hgl))]
  exact hn.c1

set_option maxHeartbeats 4000000 in
set_option maxRecDepth 100000 in
theorem kid_any {w : World} {b : Nat} {T : Lay} {X : Key → List Int} {M : Nat} (hF : Forest w b T X M) {k : Key} {g o : Nat} (hk : T.ad k = some (g, o)) (c : UInt8) (hM : M ≤ 10000000) :
    Calls Try.prog 48 #[.pointer (some ⟨g, o, none⟩), .int .u8 c.toNat] w fun e w' => ∃ T' g', e = .returned (.pointer (some ⟨g', 0, none⟩)) ∧ Forest w' b T' X (M + 1) ∧ Ext w T T' ∧ Kept T.foot w w' ∧ T'.ad (k.kid c) = some (g', 0) := by
  obtain ⟨v, mv, hn⟩ := hF.node k g o hk
  have HF := Lib.hid hF
  have HN := Lib.hid hn
  have HK := Lib.hid hk
  have c1 := hn.c1
  have f1 := hn.f1
  have hem := eqMapNil
  rcases hn.kids with ⟨rfl, hno⟩ | ⟨m, n, D, rfl, hm, hnM, hmap, hD⟩
  · have hep := eqPtrNil
    obtain ⟨T1, hF1, hE1, hK1, hA1, hN1, hno1⟩ := hF.made hk hn
    obtain ⟨W, hW⟩ : ∃ W, W = (w.alloc (.map #[] 0)).setCell ⟨g, o + 1, none⟩ (.map (some w.heap.size)) := ⟨_, rfl⟩
    rw [← hW] at hF1 hK1 hN1
    have hWc := hN1.c1
    obtain ⟨m, n, D, em, hm, hnM, hmap, hD⟩ : ∃ m n D, w.heap.size = m ∧ T1.lab m = some (.map k) ∧ n ≤ M ∧ kidsAt W m n D ∧ KidMap D fun c => (T1.ad (k.kid c)).map Prod.fst := by
      rcases hN1.kids with ⟨e, _⟩ | ⟨m, n, D, e1, e2, e3, e4, e5⟩
      · injection e with e; cases e
      · injection e1 with e1; injection e1 with e1; exact ⟨m, n, D, e1, e2, e3, e4, e5⟩
    have hx : T1.ad (k.kid c) = none := by rw [hA1]; exact hno c
    have hl := kid_look (c := c) (x := none) hmap hD (by rw [hx]; rfl)
    have HX := Lib.hid hx
    have hkey := u8key c
    have hmm := @run_makeMap Try.prog
    rw [em] at hN1 hWc
    have HF1 := Lib.hid hF1
    have HE1 := Lib.hid hE1
    have HK1 := Lib.hid hK1
    have HA1 := Lib.hid hA1
    have HN1 := Lib.hid hN1
    have HM := Lib.hid hm
    have HNM := Lib.hid hnM
    have HMAP := Lib.hid hmap
    have HD := Lib.hid hD
    have HEM := Lib.hid em
    have HW := Lib.hid hW
    have hca : (w.alloc (.map #[] 0)).cell? ⟨g, o + 1, none⟩ = some (.map none) := (World.cell?_of_block (Below.heap_alloc w _ g (hF.lt g _ hn.home))).trans c1
    have hfa : (w.alloc (.map #[] 0)).frozen? ⟨g, o + 1, none⟩ = false := (World.frozen?_of_block (Below.heap_alloc w _ g (hF.lt g _ hn.home))).trans f1
    clear hF hk hn hno hF1 hE1 hK1 hA1 hN1 hno1 hm hnM hmap hD hx em hW
    unfold ptrOf at hl
    go_enter Try.func48, Try.ntmps48
    go_upto_region 3 with fail
    rw [← HW.out, HEM.out]
    go_wp2_with (at_mapUpdate; refine wpList_mapUpdate_own _ rfl _ _ _ 64 rfl 5 86 u8Law Try.underlying64 ptrElem m n D rfl (HMAP.out.alloc _) (by have := HNM.out; unfold maxLen; omega) _ _ (.int .u8 c.toNat) rfl rfl hkey (.lit (.int .i64 W.heap.size)) [] rfl ?_; intro w1 hown1 hgrow1; have HO1 := Lib.hid hown1; have HG1 := Lib.hid hgrow1; have hl1 := kid_look (c := c) (x := some W.heap.size) hown1 (HD.out.put c W.heap.size) (if_pos rfl); unfold ptrOf at0 at hl1; have d1 : w1.cell? ⟨g, o + 1, none⟩ = some (.map (some m)) := kid_kept_cell HF1.out HN1.out HM.out hgrow1; clear hown1 hgrow1)
    go_ret
    have hk1 : T1.ad k = some (g, o) := by rw [HA1.out]; exact HK.out
    obtain ⟨T', h1, h2, h3, h4⟩ := HF1.out.kidded hk1 HN1.out HM.out HNM.out HD.out HX.out HO1.out HG1.out
    exact ⟨T', _, rfl, h1, HE1.out.trans h2 HK1.out.size, HK1.out.trans h3 fun j hj hf => by
      obtain ⟨r, hr⟩ := hf
      rcases HE1.out.new j r hr with e | e
      · exact ⟨r, e⟩
      · omega, h4⟩
  · have hep := eqPtrNil
    have HMAP := Lib.hid hmap
    have HD := Lib.hid hD
    have HM := Lib.hid hm
    have HNM := Lib.hid hnM
    cases hx : T.ad (k.kid c) with
    | some a =>
      obtain ⟨g', o'⟩ := a
      obtain rfl : o' = 0 := hF.far _ _ _ hx (Key.kid_far k c)
      have hl := kid_look (c := c) (x := some g') hmap hD (by rw [hx]; rfl)
      have HX := Lib.hid hx
      clear hF hk hn hm hnM hmap hD hx
      unfold ptrOf at0 at hl
      go_enter Try.func48, Try.ntmps48
      go_wp2
      go_ret
      exact ⟨T, g', rfl, HF.out.more (Nat.le_succ _), Ext.refl _ _, Kept.refl _ _, HX.out⟩
    | none =>
      have hl := kid_look (c := c) (x := none) hmap hD (by rw [hx]; rfl)
      have HX := Lib.hid hx
      have hkey := u8key c
      clear hF hk hn hm hnM hmap hD hx
      unfold ptrOf at hl
      go_enter Try.func48, Try.ntmps48
      go_wp2_with (at_mapUpdate; refine wpList_mapUpdate_own _ rfl _ _ _ 64 rfl 5 86 u8Law Try.underlying64 ptrElem m n D rfl (HMAP.out.alloc _) (by have := HNM.out; unfold maxLen; omega) _ _ (.int .u8 c.toNat) rfl rfl hkey (.lit (.int .i64 w.heap.size)) [] rfl ?_; intro w1 hown1 hgrow1; have HO1 := Lib.hid hown1; have HG1 := Lib.hid hgrow1; have hl1 := kid_look (c := c) (x := some w.heap.size) hown1 (HD.out.put c w.heap.size) (if_pos rfl); unfold ptrOf at0 at hl1; have d1 : w1.cell? ⟨g, o + 1, none⟩ = some (.map (some m)) := kid_kept_cell HF.out HN.out HM.out hgrow1; clear hown1 hgrow1)
      go_ret
      obtain ⟨T', h1, h2, h3, h4⟩ := HF.out.kidded HK.out HN.out HM.out HNM.out HD.out HX.out HO1.out HG1.out
      exact ⟨T', _, rfl, h1, h2, h3, h4⟩
end Go.Proofs.Ytjnbilcanfhkjaa
