/- Sets that others are made of: apart, in a row; meet. -/
import Derived.Test.YtkligdaademakaaSoTo
namespace Go.Proofs.Ytkligdaademakaa
open Go.RowKit Go.Maps Go.WideMaps Go.Shelf
set_option linter.unusedSimpArgs false

structure Kids (Q : MvP) (w : World) (X : List SV) : Prop where
  each : ∀ x ∈ X, SetLv Q w x.F x.p x.l
  apart : X.Pairwise fun x y => ∀ b, x.F b → ¬ y.F b
theorem Kids.keep {Q : MvP} (hQ : MovesOk Q) {w w' : World} {X : List SV} (h : Kids Q w X) (hk : ∀ x ∈ X, ∀ b, x.F b → w'.heap[b]? = w.heap[b]?) (hs : w.heap.size ≤ w'.heap.size) : Kids Q w' X := ⟨fun x hx => (h.each x hx).keep hQ (hk x hx) hs, h.apart⟩
theorem Kids.far {Q : MvP} {w : World} {X : List SV} (h : Kids Q w X) {i k : Nat} {x y : SV} (hx : X[i]? = some x) (hy : X[k]? = some y) (hne : i ≠ k) : ∀ b, x.F b → ¬ y.F b := by
  have hp := List.pairwise_iff_getElem.1 h.apart
  obtain ⟨hi, rfl⟩ := List.getElem?_eq_some_iff.1 hx
  obtain ⟨hk, rfl⟩ := List.getElem?_eq_some_iff.1 hy
  rcases Nat.lt_or_gt_of_ne hne with h1 | h1
  · exact hp i k hi hk h1
  · intro b h2 h3
    exact hp k i hk hi h1 b h3 h2
/-- One of them has turned. -/
theorem Kids.turn {Q : MvP} (hQ : MovesOk Q) {w w' : World} {X : List SV} (h : Kids Q w X) {k : Nat} {x : SV} (hx : X[k]? = some x) {F' : Nat → Prop} {l' : List Int} (hR : SetLv Q w' F' x.p l') (hk : Kept x.F w w') (hF : ∀ i, F' i → x.F i ∨ w.heap.size ≤ i) : Kids Q w' (X.set k ⟨x.p, l', F'⟩) := by
  have hold : ∀ (i : Nat) (y : SV), X[i]? = some y → i ≠ k → SetLv Q w' y.F y.p y.l ∧ ∀ b, y.F b → ¬ F' b := fun i y hy hne => by
    have h1 := h.each y (List.mem_of_getElem? hy)
    refine ⟨h1.keep hQ (fun b hb => hk.block b (h1.lt b hb) (h.far hy hx hne b hb)) hk.size, fun b hb hb2 => ?_⟩
    rcases hF b hb2 with h2 | h2
    · exact h.far hy hx hne b hb h2
    · have := h1.lt b hb; omega
  have hkl := (List.getElem?_eq_some_iff.1 hx).1
  refine ⟨fun y hy => ?_, List.pairwise_iff_getElem.2 fun i j hi hj hij b hb hb2 => ?_⟩
  · obtain ⟨i, hi⟩ := List.getElem?_of_mem hy
    by_cases hik : k = i
    · subst hik
      rw [List.getElem?_set_self hkl] at hi
      cases hi; exact hR
    · rw [List.getElem?_set_ne hik] at hi
      exact (hold i y hi (fun e => hik e.symm)).1
  · simp only [List.length_set] at hi hj
    rw [List.getElem_set] at hb hb2
    split at hb
    · rename_i h1
      subst h1
      rw [if_neg (by omega)] at hb2
      exact (hold j _ (List.getElem?_eq_getElem hj) (by omega)).2 b hb2 hb
    · split at hb2
      · rename_i h1 h2
        subst h2
        exact (hold i _ (List.getElem?_eq_getElem hi) (by omega)).2 b hb hb2
      · exact h.far (List.getElem?_eq_getElem hi) (List.getElem?_eq_getElem hj) (by omega) b hb hb2
/-- A set's list from d on is what it was. -/
structure Near (d : Int) (x y : SV) : Prop where
  p : y.p = x.p
  same : ∀ z, d ≤ z → (z ∈ y.l ↔ z ∈ x.l)
abbrev kidsF (X : List SV) : Nat → Prop := fun b => ∃ x ∈ X, x.F b
/-- Sets in a row that have moved since w0: none behind d is lost; only blocks of G were written. -/
structure Moved (Q : MvP) (G : Nat → Prop) (w0 w : World) (X Y : List SV) (d : Int) : Prop where
  kids : Kids Q w Y
  len : Y.length = X.length
  near : ∀ (i : Nat) (x y : SV), X[i]? = some x → Y[i]? = some y → Near d x y
  kept : Kept G w0 w
  sub : ∀ b, kidsF X b → G b
  inF : ∀ y ∈ Y, ∀ b, y.F b → (∃ x ∈ X, x.F b) ∨ w0.heap.size ≤ b
theorem Moved.start {Q : MvP} {w : World} {X : List SV} (h : Kids Q w X) (d : Int) : Moved Q (kidsF X) w w X X d := ⟨h, rfl, fun i x y h1 h2 => by rw [h1] at h2; cases h2; exact ⟨rfl, fun _ _ => Iff.rfl⟩, Kept.refl _ _, fun _ h => h, fun y hy b hb => .inl ⟨y, hy, hb⟩⟩
theorem Moved.on {Q : MvP} {G : Nat → Prop} {w0 w : World} {X Y : List SV} {d d' : Int} (h : Moved Q G w0 w X Y d) (hd : d ≤ d') : Moved Q G w0 w X Y d' := ⟨h.kids, h.len, fun i x y h1 h2 => ⟨(h.near i x y h1 h2).p, fun z hz => (h.near i x y h1 h2).same z (by omega)⟩, h.kept, h.sub, h.inF⟩
theorem Moved.ptrs {Q : MvP} {G : Nat → Prop} {w0 w : World} {X Y : List SV} {d : Int} (h : Moved Q G w0 w X Y d) : Y.map (fun x => Value.pointer x.p) = X.map fun x => Value.pointer x.p := by
  refine List.ext_getElem? fun i => ?_
  rw [List.getElem?_map, List.getElem?_map]
  rcases Nat.lt_or_ge i X.length with hi | hi
  · have h1 := List.getElem?_eq_getElem hi
    have h2 := List.getElem?_eq_getElem (h.len ▸ hi : i < Y.length)
    rw [h1, h2]
    simp only [Option.map_some]
    rw [(h.near i _ _ h1 h2).p]
  · rw [List.getElem?_eq_none hi, List.getElem?_eq_none (by rw [h.len]; exact hi)]
/-- One more has moved to e. -/
theorem Moved.turn {Q : MvP} {G : Nat → Prop} (hQ : MovesOk Q) {w0 w w' : World} {X Y : List SV} {d e : Int} (h : Moved Q G w0 w X Y d) {k : Nat} {y : SV} (hy : Y[k]? = some y) {F' : Nat → Prop} (hR : SetLv Q w' F' y.p (fromL e y.l)) (hk : Kept y.F w w') (hF : ∀ i, F' i → y.F i ∨ w.heap.size ≤ i) (hde : e ≤ d) : Moved Q G w0 w' X (Y.set k ⟨y.p, fromL e y.l, F'⟩) d where
  kids := h.kids.turn hQ hy hR hk hF
  len := by rw [List.length_set]; exact h.len
  near := fun i x z h1 h2 => by
    by_cases hik : k = i
    · subst hik
      rw [List.getElem?_set_self (List.getElem?_eq_some_iff.1 hy).1] at h2
      cases h2
      have hn := h.near k x y h1 hy
      refine ⟨hn.p, fun v hv => ?_⟩
      have hu := (h.kids.each y (List.mem_of_getElem? hy)).up
      show v ∈ fromL e y.l ↔ v ∈ x.l
      rw [hu.mem_from, hn.same v hv]
      exact ⟨And.left, fun q => ⟨q, by omega⟩⟩
    · rw [List.getElem?_set_ne hik] at h2
      exact h.near i x z h1 h2
  kept := by
    refine h.kept.trans hk fun i hi h2 => ?_
    rcases h.inF y (List.mem_of_getElem? hy) i h2 with h3 | h3
    · exact h.sub i h3
    · omega
  sub := h.sub
  inF := fun z hz b hb => by
    obtain ⟨i, hi⟩ := List.getElem?_of_mem hz
    have hsz := h.kept.size
    by_cases hik : k = i
    · subst hik
      rw [List.getElem?_set_self (List.getElem?_eq_some_iff.1 hy).1] at hi
      cases hi
      rcases hF b hb with h2 | h2
      · exact h.inF y (List.mem_of_getElem? hy) b h2
      · right; omega
    · rw [List.getElem?_set_ne hik] at hi
      exact h.inF z (List.mem_of_getElem? hi) b hb
/-- A block that none of them has was written. -/
theorem Moved.wrote {Q : MvP} {G : Nat → Prop} (hQ : MovesOk Q) {w0 w w' : World} {X Y : List SV} {d : Int} (h : Moved Q G w0 w X Y d) {r : Nat} (hr : G r) (hr0 : r < w0.heap.size) (hn : ¬ kidsF X r) (hk : Kept (fun i => i = r) w w') : Moved Q G w0 w' X Y d where
  kids := h.kids.keep hQ (fun y hy b hb => hk.block b ((h.kids.each y hy).lt b hb) (fun e => by
    subst e
    rcases h.inF y hy b hb with h2 | h2
    · exact hn h2
    · omega)) hk.size
  len := h.len
  near := h.near
  kept := h.kept.trans hk (fun i _ e => by subst e; exact hr)
  sub := h.sub
  inF := h.inF
/-- Kids in a larger footprint. -/
theorem Moved.wide {Q : MvP} {G G' : Nat → Prop} {w0 w : World} {X Y : List SV} {d : Int} (h : Moved Q G w0 w X Y d) (hG : ∀ b, G b → G' b) : Moved Q G' w0 w X Y d := ⟨h.kids, h.len, h.near, h.kept.mono hG, fun b hb => hG b (h.sub b hb), h.inF⟩
/-- All stand at d, up to the k-th. -/
def AtAll (Y : List SV) (k : Nat) (d : Int) : Prop := ∀ (i : Nat) (y : SV), i < k → Y[i]? = some y → d ∈ y.l ∧ ∀ z ∈ y.l, d ≤ z
/-- What meet answers. -/
def MeetOut (Q : MvP) (w : World) (X : List SV) (d : Int) (e : Ending) (w' : World) : Prop :=
  (e = .returned (.tuple #[.int .i64 0, .bool false]) ∧ (∀ z, (∀ x ∈ X, z ∈ x.l) → z < d) ∧ Kept (fun b => ∃ x ∈ X, x.F b) w w') ∨
  ∃ (a : Int) (Y : List SV), e = .returned (.tuple #[.int .i64 a, .bool true]) ∧ d ≤ a ∧ fits64 a ∧ (∀ z, (∀ x ∈ X, z ∈ x.l) → d ≤ z → a ≤ z) ∧ Moved Q (kidsF X) w w' X Y a ∧ AtAll Y Y.length a
set_option maxHeartbeats 8000000 in
set_option maxRecDepth 100000 in
theorem meet_any {Q : MvP} (hQ : MovesOk Q) {w : World} {X : List SV} (h : Kids Q w X) (A : Option Addr) (n c : Nat) (hA : Src w A n (X.map fun x => Value.pointer x.p)) (hAb : ∀ ad, A = some ad → 0 < n → ad.block < w.heap.size ∧ ∀ x ∈ X, ¬ x.F ad.block) (h0 : 0 < n) (hn : n ≤ 1000000) (d : Int) (hd : fits64 d) :
    Calls Try.prog 38 #[.slice A n c, .int .i64 d] w (MeetOut Q w X d) := by
  have HK := Lib.hid h
  have HA := Lib.hid hA
  have HAB := Lib.hid hAb
  have HLX : Hid (X.length = n) := Lib.hid (by have := hA.len; simpa using this)
  unfold fits64 at hd
  obtain ⟨hd1, hd2⟩ := hd
  clear h hA hAb
  go_enter Try.func38, Try.ntmps38
  go_wp2
  go_loopw [1] (fun v wr => ∃ (a : Int) (Y : List SV), v = .int .i64 a ∧ d ≤ a ∧ a ≤ 9223372036854775807 ∧ (∀ z, (∀ x ∈ X, z ∈ x.l) → d ≤ z → a ≤ z) ∧ Moved Q (kidsF X) w wr X Y a) (fun v _ => (9223372036854775808 - intOf v).toNat)
  case atStart => exact ⟨d, X, rfl, Int.le_refl _, hd2, fun _ _ h => h, Moved.start HK.out d⟩
  case round =>
    obtain ⟨a, Y, rfl, ha1, ha2, ha3, hm⟩ := hrel
    have HA3 := Lib.hid ha3
    have HM := Lib.hid hm
    clear ha3 hm
    obtain ⟨wo, hwo⟩ : ∃ z, z = wr := ⟨_, rfl⟩
    rw [← hwo]
    rw [← hwo] at HM
    clear hwo
    go_wp2
    go_loopw [14, 1] (fun iv v wi => ∃ (k : Nat) (b : Int) (Z : List SV), iv = .int .i64 k ∧ k ≤ n ∧ v = .int .i64 b ∧ a ≤ b ∧ b ≤ 9223372036854775807 ∧ (∀ z, (∀ x ∈ X, z ∈ x.l) → d ≤ z → b ≤ z) ∧ Moved Q (kidsF X) w wi X Z b ∧ (b = a → AtAll Z k a)) (fun iv _ _ => n - (intOf iv).toNat)
    case atStart => exact ⟨0, a, Y, rfl, Nat.zero_le _, rfl, Int.le_refl _, ha2, HA3.out, HM.out, fun _ i y hi => by omega⟩
    case round =>
      obtain ⟨k, b, Z, rfl, hkn, rfl, hb1, hb2, hb3, hmz, hat⟩ := hrel
      have HB3 := Lib.hid hb3
      have HMZ := Lib.hid hmz
      have HAT := Lib.hid hat
      have HSZ := Lib.hid hmz.kept.size
      have hsrc : Src wr A n (X.map fun x => Value.pointer x.p) := HA.out.keep fun ad e h0 => hmz.kept.block _ (HAB.out ad e h0).1 (fun ⟨x, hx, hf⟩ => (HAB.out ad e h0).2 x hx hf)
      have HSRC := Lib.hid hsrc
      clear hb3 hmz hat hsrc
      rcases Nat.lt_or_ge k n with hlt | hge
      · have hlt' : (k : Int) < (n : Int) := by omega
        have p0 : (0 : Int) ≤ (k : Int) := by omega
        have hw5 : IntKind.i64.wrap ((k : Int) + 1) = (k : Int) + 1 := IntWalk.i64_in _ (by omega)
        have hkx : X[k]? = some (X[k]'(by rw [HLX.out]; exact hlt)) := List.getElem?_eq_getElem _
        have hkz : Z[k]? = some (Z[k]'(by rw [HMZ.out.len, HLX.out]; exact hlt)) := List.getElem?_eq_getElem _
        obtain ⟨x, hx⟩ : ∃ x, x = X[k]'(by rw [HLX.out]; exact hlt) := ⟨_, rfl⟩
        obtain ⟨y, hy⟩ : ∃ y, y = Z[k]'(by rw [HMZ.out.len, HLX.out]; exact hlt) := ⟨_, rfl⟩
        rw [← hx] at hkx
        rw [← hy] at hkz
        have hnear := HMZ.out.near k x y hkx hkz
        have hset := HMZ.out.kids.each y (List.mem_of_getElem? hkz)
        obtain ⟨ad, rfl⟩ : ∃ ad, A = some ad := by
          cases hA : A with
          | none => have := HSRC.out.nil hA; omega
          | some ad => exact ⟨ad, rfl⟩
        have hcell : wr.cell? (ad.add k) = some (.pointer y.p) := by
          rw [hnear.p]
          exact HSRC.out.cells ad rfl k _ (by rw [List.getElem?_map, hkx]; rfl)
        have hto := seTo_any hQ hset b (by unfold fits64; omega)
        have HU := Lib.hid (hset.up.from b)
        obtain ⟨D, hD⟩ : ∃ z, z = (fromL b y.l).headD 0 := ⟨_, rfl⟩
        obtain ⟨I, hI⟩ : ∃ z, z = (fromL b y.l).isEmpty := ⟨_, rfl⟩
        unfold ToOut at hto
        rw [← hD, ← hI] at hto
        have HTO := Lib.hid hto
        have HD := Lib.hid hD
        have HI := Lib.hid hI
        have HKX := Lib.hid hkx
        have HKZ := Lib.hid hkz
        have HNEAR := Lib.hid hnear
        have HUY := Lib.hid hset.up
        clear hkx hkz hx hy hnear hset hto hD hI
        go_wp2_with fail
        refine HTO.out.mono ?_
        rintro e w2 ⟨rfl, F', h1, h2, h3⟩
        have HP := Lib.hid (And.intro h1 (And.intro h2 h3))
        clear h1 h2 h3
        cases I with
        | true =>
          have hnil : fromL b y.l = [] := List.isEmpty_iff.1 HI.out.symm
          have hend : ∀ z, (∀ x ∈ X, z ∈ x.l) → z < d := fun z hz => by
            rcases Int.lt_or_le z d with h1 | h1
            · exact h1
            · have h2 := HB3.out z hz h1
              have h3 := (HNEAR.out.same z h2).2 (hz x (List.mem_of_getElem? HKX.out))
              have h4 := (HUY.out.mem_from b z).2 ⟨h3, h2⟩
              rw [hnil] at h4
              cases h4
          have HEND := Lib.hid hend
          have HKE := Lib.hid (HMZ.out.kept.trans HP.out.2.1 (fun i hi h2 => by
            rcases HMZ.out.inF y (List.mem_of_getElem? HKZ.out) i h2 with h3 | h3
            · exact h3
            · omega))
          clear hnil hend
          go_wp2
          go_ret2
          exact .inl ⟨rfl, HEND.out, HKE.out⟩
        | false =>
          obtain ⟨q1, q2⟩ := HU.out.head HI.out.symm
          rw [← HD.out] at q1 q2
          have q3 := (HUY.out.mem_from b D).1 q1
          have q4 := HUY.out.most D q3.1
          have HMD : Hid (Moved Q (kidsF X) w w2 X (Z.set k ⟨y.p, fromL b y.l, F'⟩) D) := Lib.hid ((HMZ.out.turn hQ HKZ.out HP.out.1 HP.out.2.1 HP.out.2.2 (Int.le_refl b)).on q3.2)
          have HB4 : Hid (∀ z, (∀ x ∈ X, z ∈ x.l) → d ≤ z → D ≤ z) := Lib.hid fun z hz h1 => by
            have h2 := HB3.out z hz h1
            have h3 := (HNEAR.out.same z h2).2 (hz x (List.mem_of_getElem? HKX.out))
            exact q2 z ((HUY.out.mem_from b z).2 ⟨h3, h2⟩)
          have HAT2 : Hid (D = a → AtAll (Z.set k ⟨y.p, fromL b y.l, F'⟩) (k + 1) a) := Lib.hid fun e i v hi hv => by
            by_cases hik : k = i
            · subst hik
              rw [List.getElem?_set_self (List.getElem?_eq_some_iff.1 HKZ.out).1] at hv
              cases hv
              rw [← e]
              exact ⟨q1, q2⟩
            · rw [List.getElem?_set_ne hik] at hv
              exact HAT.out (by omega) i v (by omega) hv
          have hbD := q3.2
          clear q1 q2 q3
          go_wp2
          go_roundw
          case rel => exact ⟨k + 1, D, _, by go_num, by omega, rfl, by omega, q4, HB4.out, HMD.out, HAT2.out⟩
          case measure => simp [intOf]; omega
      · obtain rfl : k = n := by omega
        have hlz : ¬ ((k : Int) < (k : Int)) := by omega
        by_cases hba : b = a
        · subst hba
          have d1 : (b == b) = true := by simp
          have HRES : Hid (AtAll Z Z.length b) := Lib.hid (by rw [HMZ.out.len, HLX.out]; exact HAT.out rfl)
          go_wp2
          go_ret2
          exact .inr ⟨b, Z, rfl, ha1, ⟨by omega, hb2⟩, HB3.out, HMZ.out, HRES.out⟩
        · have d1 : (b == a) = false := by simpa using hba
          go_wp2
          go_roundw
          case rel => exact ⟨b, Z, rfl, by omega, hb2, HB3.out, HMZ.out⟩
          case measure => simp [intOf]; omega
end Go.Proofs.Ytkligdaademakaa
