/- Sets that others are made of: apart, in a row; meet. The landed sets: And's function that moves. The landed sets: Or's function that moves. The landed sets: Less's function that moves. -/
import Derived.Test.YtkligdaademakaaZp1
import Derived.Laws.Alloc2
import Derived.StillTailTactics
namespace Go.Proofs.Ytkligdaademakaa
open Go.RowKit Go.Maps Go.WideMaps Go.Shelf
set_option linter.unusedSimpArgs false

structure Kids (Q : MvP) (w : World) (X : List SV) : Prop where
  each : ∀ x ∈ X, SetLv Q w x.F x.p x.l
  apart : X.Pairwise fun x y => ∀ b, x.F b → ¬ y.F b
theorem Kids.keep {Q : MvP} (hQ : MovesOk Q) {w w' : World} {X : List SV} (h : Kids Q w X) (hk : ∀ x ∈ X, ∀ b, x.F b → w'.heap[b]? = w.heap[b]?) (hs : w.heap.size ≤ w'.heap.size) : Kids Q w' X := ⟨fun x hx => (h.each x hx).keep hQ (hk x hx) hs, h.apart⟩
theorem Kids.far {Q : MvP} {w : World} {X : List SV} (h : Kids Q w X) {i k : Nat} {x y : SV} (hx : X[i]? = some x) (hy : X[k]? = some y) (hne : i ≠ k) : ∀ b, x.F b → ¬ y.F b := by
  have hp := List.pairwise_iff_getElem.1 h.apart
  obtain ⟨hi, rfl⟩ := List.getElem?_eq_some_iff.1 hx
  obtain ⟨hk, rfl⟩ := List.getElem?_eq_some_iff.1 hy
  rcases Nat.lt_or_gt_of_ne hne with h1 | h1
  · exact hp i k hi hk h1
  · intro b h2 h3
    exact hp k i hk hi h1 b h3 h2
/-- One of them has turned. -/
theorem Kids.turn {Q : MvP} (hQ : MovesOk Q) {w w' : World} {X : List SV} (h : Kids Q w X) {k : Nat} {x : SV} (hx : X[k]? = some x) {F' : Nat → Prop} {l' : List Int} (hR : SetLv Q w' F' x.p l') (hk : Kept x.F w w') (hF : ∀ i, F' i → x.F i ∨ w.heap.size ≤ i) : Kids Q w' (X.set k ⟨x.p, l', F'⟩) := by
  have hold : ∀ (i : Nat) (y : SV), X[i]? = some y → i ≠ k → SetLv Q w' y.F y.p y.l ∧ ∀ b, y.F b → ¬ F' b := fun i y hy hne => by
    have h1 := h.each y (List.mem_of_getElem? hy)
    refine ⟨h1.keep hQ (fun b hb => hk.block b (h1.lt b hb) (h.far hy hx hne b hb)) hk.size, fun b hb hb2 => ?_⟩
    rcases hF b hb2 with h2 | h2
    · exact h.far hy hx hne b hb h2
    · have := h1.lt b hb; omega
  have hkl := (List.getElem?_eq_some_iff.1 hx).1
  refine ⟨fun y hy => ?_, List.pairwise_iff_getElem.2 fun i j hi hj hij b hb hb2 => ?_⟩
  · obtain ⟨i, hi⟩ := List.getElem?_of_mem hy
    by_cases hik : k = i
    · subst hik
      rw [List.getElem?_set_self hkl] at hi
      cases hi; exact hR
    · rw [List.getElem?_set_ne hik] at hi
      exact (hold i y hi (fun e => hik e.symm)).1
  · simp only [List.length_set] at hi hj
    rw [List.getElem_set] at hb hb2
    split at hb
    · rename_i h1
      subst h1
      rw [if_neg (by omega)] at hb2
      exact (hold j _ (List.getElem?_eq_getElem hj) (by omega)).2 b hb2 hb
    · split at hb2
      · rename_i h1 h2
        subst h2
        exact (hold i _ (List.getElem?_eq_getElem hi) (by omega)).2 b hb hb2
      · exact h.far (List.getElem?_eq_getElem hi) (List.getElem?_eq_getElem hj) (by omega) b hb hb2
/-- A set's list from d on is what it was. -/
structure Near (d : Int) (x y : SV) : Prop where
  p : y.p = x.p
  same : ∀ z, d ≤ z → (z ∈ y.l ↔ z ∈ x.l)
abbrev kidsF (X : List SV) : Nat → Prop := fun b => ∃ x ∈ X, x.F b
/-- Sets in a row that have moved since w0: none behind d is lost; only blocks of G were written. -/
structure Moved (Q : MvP) (G : Nat → Prop) (w0 w : World) (X Y : List SV) (d : Int) : Prop where
  kids : Kids Q w Y
  len : Y.length = X.length
  near : ∀ (i : Nat) (x y : SV), X[i]? = some x → Y[i]? = some y → Near d x y
  kept : Kept G w0 w
  sub : ∀ b, kidsF X b → G b
  inF : ∀ y ∈ Y, ∀ b, y.F b → (∃ x ∈ X, x.F b) ∨ w0.heap.size ≤ b
theorem Moved.start {Q : MvP} {w : World} {X : List SV} (h : Kids Q w X) (d : Int) : Moved Q (kidsF X) w w X X d := ⟨h, rfl, fun i x y h1 h2 => by rw [h1] at h2; cases h2; exact ⟨rfl, fun _ _ => Iff.rfl⟩, Kept.refl _ _, fun _ h => h, fun y hy b hb => .inl ⟨y, hy, hb⟩⟩
theorem Moved.on {Q : MvP} {G : Nat → Prop} {w0 w : World} {X Y : List SV} {d d' : Int} (h : Moved Q G w0 w X Y d) (hd : d ≤ d') : Moved Q G w0 w X Y d' := ⟨h.kids, h.len, fun i x y h1 h2 => ⟨(h.near i x y h1 h2).p, fun z hz => (h.near i x y h1 h2).same z (by omega)⟩, h.kept, h.sub, h.inF⟩
theorem Moved.ptrs {Q : MvP} {G : Nat → Prop} {w0 w : World} {X Y : List SV} {d : Int} (h : Moved Q G w0 w X Y d) : Y.map (fun x => Value.pointer x.p) = X.map fun x => Value.pointer x.p := by
  refine List.ext_getElem? fun i => ?_
  rw [List.getElem?_map, List.getElem?_map]
  rcases Nat.lt_or_ge i X.length with hi | hi
  · have h1 := List.getElem?_eq_getElem hi
    have h2 := List.getElem?_eq_getElem (h.len ▸ hi : i < Y.length)
    rw [h1, h2]
    simp only [Option.map_some]
    rw [(h.near i _ _ h1 h2).p]
  · rw [List.getElem?_eq_none hi, List.getElem?_eq_none (by rw [h.len]; exact hi)]
/-- One more has moved to e. -/
theorem Moved.turn {Q : MvP} {G : Nat → Prop} (hQ : MovesOk Q) {w0 w w' : World} {X Y : List SV} {d e : Int} (h : Moved Q G w0 w X Y d) {k : Nat} {y : SV} (hy : Y[k]? = some y) {F' : Nat → Prop} (hR : SetLv Q w' F' y.p (fromL e y.l)) (hk : Kept y.F w w') (hF : ∀ i, F' i → y.F i ∨ w.heap.size ≤ i) (hde : e ≤ d) : Moved Q G w0 w' X (Y.set k ⟨y.p, fromL e y.l, F'⟩) d where
  kids := h.kids.turn hQ hy hR hk hF
  len := by rw [List.length_set]; exact h.len
  near := fun i x z h1 h2 => by
    by_cases hik : k = i
    · subst hik
      rw [List.getElem?_set_self (List.getElem?_eq_some_iff.1 hy).1] at h2
      cases h2
      have hn := h.near k x y h1 hy
      refine ⟨hn.p, fun v hv => ?_⟩
      have hu := (h.kids.each y (List.mem_of_getElem? hy)).up
      show v ∈ fromL e y.l ↔ v ∈ x.l
      rw [hu.mem_from, hn.same v hv]
      exact ⟨And.left, fun q => ⟨q, by omega⟩⟩
    · rw [List.getElem?_set_ne hik] at h2
      exact h.near i x z h1 h2
  kept := by
    refine h.kept.trans hk fun i hi h2 => ?_
    rcases h.inF y (List.mem_of_getElem? hy) i h2 with h3 | h3
    · exact h.sub i h3
    · omega
  sub := h.sub
  inF := fun z hz b hb => by
    obtain ⟨i, hi⟩ := List.getElem?_of_mem hz
    have hsz := h.kept.size
    by_cases hik : k = i
    · subst hik
      rw [List.getElem?_set_self (List.getElem?_eq_some_iff.1 hy).1] at hi
      cases hi
      rcases hF b hb with h2 | h2
      · exact h.inF y (List.mem_of_getElem? hy) b h2
      · right; omega
    · rw [List.getElem?_set_ne hik] at hi
      exact h.inF z (List.mem_of_getElem? hi) b hb
/-- A block that none of them has was written. -/
theorem Moved.wrote {Q : MvP} {G : Nat → Prop} (hQ : MovesOk Q) {w0 w w' : World} {X Y : List SV} {d : Int} (h : Moved Q G w0 w X Y d) {r : Nat} (hr : G r) (hr0 : r < w0.heap.size) (hn : ¬ kidsF X r) (hk : Kept (fun i => i = r) w w') : Moved Q G w0 w' X Y d where
  kids := h.kids.keep hQ (fun y hy b hb => hk.block b ((h.kids.each y hy).lt b hb) (fun e => by
    subst e
    rcases h.inF y hy b hb with h2 | h2
    · exact hn h2
    · omega)) hk.size
  len := h.len
  near := h.near
  kept := h.kept.trans hk (fun i _ e => by subst e; exact hr)
  sub := h.sub
  inF := h.inF
/-- Kids in a larger footprint. -/
theorem Moved.wide {Q : MvP} {G G' : Nat → Prop} {w0 w : World} {X Y : List SV} {d : Int} (h : Moved Q G w0 w X Y d) (hG : ∀ b, G b → G' b) : Moved Q G' w0 w X Y d := ⟨h.kids, h.len, h.near, h.kept.mono hG, fun b hb => hG b (h.sub b hb), h.inF⟩
/-- All stand at d, up to the k-th. -/
def AtAll (Y : List SV) (k : Nat) (d : Int) : Prop := ∀ (i : Nat) (y : SV), i < k → Y[i]? = some y → d ∈ y.l ∧ ∀ z ∈ y.l, d ≤ z
/-- What meet answers. -/
def MeetOut (Q : MvP) (w : World) (X : List SV) (d : Int) (e : Ending) (w' : World) : Prop :=
  (e = .returned (.tuple #[.int .i64 0, .bool false]) ∧ (∀ z, (∀ x ∈ X, z ∈ x.l) → z < d) ∧ Kept (fun b => ∃ x ∈ X, x.F b) w w') ∨
  ∃ (a : Int) (Y : List SV), e = .returned (.tuple #[.int .i64 a, .bool true]) ∧ d ≤ a ∧ fits64 a ∧ (∀ z, (∀ x ∈ X, z ∈ x.l) → d ≤ z → a ≤ z) ∧ Moved Q (kidsF X) w w' X Y a ∧ AtAll Y Y.length a
set_option maxHeartbeats 8000000 in
set_option maxRecDepth 100000 in
theorem meet_any {Q : MvP} (hQ : MovesOk Q) {w : World} {X : List SV} (h : Kids Q w X) (A : Option Addr) (n c : Nat) (hA : Src w A n (X.map fun x => Value.pointer x.p)) (hAb : ∀ ad, A = some ad → 0 < n → ad.block < w.heap.size ∧ ∀ x ∈ X, ¬ x.F ad.block) (h0 : 0 < n) (hn : n ≤ 1000000) (d : Int) (hd : fits64 d) :
    Calls Try.prog 38 #[.slice A n c, .int .i64 d] w (MeetOut Q w X d) := by
  have HK := Lib.hid h
  have HA := Lib.hid hA
  have HAB := Lib.hid hAb
  have HLX : Hid (X.length = n) := Lib.hid (by have := hA.len; simpa using this)
  unfold fits64 at hd
  obtain ⟨hd1, hd2⟩ := hd
  clear h hA hAb
  go_enter Try.func38, Try.ntmps38
  go_wp2
  go_loopw [1] (fun v wr => ∃ (a : Int) (Y : List SV), v = .int .i64 a ∧ d ≤ a ∧ a ≤ 9223372036854775807 ∧ (∀ z, (∀ x ∈ X, z ∈ x.l) → d ≤ z → a ≤ z) ∧ Moved Q (kidsF X) w wr X Y a) (fun v _ => (9223372036854775808 - intOf v).toNat)
  case atStart => exact ⟨d, X, rfl, Int.le_refl _, hd2, fun _ _ h => h, Moved.start HK.out d⟩
  case round =>
    obtain ⟨a, Y, rfl, ha1, ha2, ha3, hm⟩ := hrel
    have HA3 := Lib.hid ha3
    have HM := Lib.hid hm
    clear ha3 hm
    obtain ⟨wo, hwo⟩ : ∃ z, z = wr := ⟨_, rfl⟩
    rw [← hwo]
    rw [← hwo] at HM
    clear hwo
    go_wp2
    go_loopw [14, 1] (fun iv v wi => ∃ (k : Nat) (b : Int) (Z : List SV), iv = .int .i64 k ∧ k ≤ n ∧ v = .int .i64 b ∧ a ≤ b ∧ b ≤ 9223372036854775807 ∧ (∀ z, (∀ x ∈ X, z ∈ x.l) → d ≤ z → b ≤ z) ∧ Moved Q (kidsF X) w wi X Z b ∧ (b = a → AtAll Z k a)) (fun iv _ _ => n - (intOf iv).toNat)
    case atStart => exact ⟨0, a, Y, rfl, Nat.zero_le _, rfl, Int.le_refl _, ha2, HA3.out, HM.out, fun _ i y hi => by omega⟩
    case round =>
      obtain ⟨k, b, Z, rfl, hkn, rfl, hb1, hb2, hb3, hmz, hat⟩ := hrel
      have HB3 := Lib.hid hb3
      have HMZ := Lib.hid hmz
      have HAT := Lib.hid hat
      have HSZ := Lib.hid hmz.kept.size
      have hsrc : Src wr A n (X.map fun x => Value.pointer x.p) := HA.out.keep fun ad e h0 => hmz.kept.block _ (HAB.out ad e h0).1 (fun ⟨x, hx, hf⟩ => (HAB.out ad e h0).2 x hx hf)
      have HSRC := Lib.hid hsrc
      clear hb3 hmz hat hsrc
      rcases Nat.lt_or_ge k n with hlt | hge
      · have hlt' : (k : Int) < (n : Int) := by omega
        have p0 : (0 : Int) ≤ (k : Int) := by omega
        have hw5 : IntKind.i64.wrap ((k : Int) + 1) = (k : Int) + 1 := IntWalk.i64_in _ (by omega)
        have hkx : X[k]? = some (X[k]'(by rw [HLX.out]; exact hlt)) := List.getElem?_eq_getElem _
        have hkz : Z[k]? = some (Z[k]'(by rw [HMZ.out.len, HLX.out]; exact hlt)) := List.getElem?_eq_getElem _
        obtain ⟨x, hx⟩ : ∃ x, x = X[k]'(by rw [HLX.out]; exact hlt) := ⟨_, rfl⟩
        obtain ⟨y, hy⟩ : ∃ y, y = Z[k]'(by rw [HMZ.out.len, HLX.out]; exact hlt) := ⟨_, rfl⟩
        rw [← hx] at hkx
        rw [← hy] at hkz
        have hnear := HMZ.out.near k x y hkx hkz
        have hset := HMZ.out.kids.each y (List.mem_of_getElem? hkz)
        obtain ⟨ad, rfl⟩ : ∃ ad, A = some ad := by
          cases hA : A with
          | none => have := HSRC.out.nil hA; omega
          | some ad => exact ⟨ad, rfl⟩
        have hcell : wr.cell? (ad.add k) = some (.pointer y.p) := by
          rw [hnear.p]
          exact HSRC.out.cells ad rfl k _ (by rw [List.getElem?_map, hkx]; rfl)
        have hto := seTo_any hQ hset b (by unfold fits64; omega)
        have HU := Lib.hid (hset.up.from b)
        obtain ⟨D, hD⟩ : ∃ z, z = (fromL b y.l).headD 0 := ⟨_, rfl⟩
        obtain ⟨I, hI⟩ : ∃ z, z = (fromL b y.l).isEmpty := ⟨_, rfl⟩
        unfold ToOut at hto
        rw [← hD, ← hI] at hto
        have HTO := Lib.hid hto
        have HD := Lib.hid hD
        have HI := Lib.hid hI
        have HKX := Lib.hid hkx
        have HKZ := Lib.hid hkz
        have HNEAR := Lib.hid hnear
        have HUY := Lib.hid hset.up
        clear hkx hkz hx hy hnear hset hto hD hI
        go_wp2_with fail
        refine HTO.out.mono ?_
        rintro e w2 ⟨rfl, F', h1, h2, h3⟩
        have HP := Lib.hid (And.intro h1 (And.intro h2 h3))
        clear h1 h2 h3
        cases I with
        | true =>
          have hnil : fromL b y.l = [] := List.isEmpty_iff.1 HI.out.symm
          have hend : ∀ z, (∀ x ∈ X, z ∈ x.l) → z < d := fun z hz => by
            rcases Int.lt_or_le z d with h1 | h1
            · exact h1
            · have h2 := HB3.out z hz h1
              have h3 := (HNEAR.out.same z h2).2 (hz x (List.mem_of_getElem? HKX.out))
              have h4 := (HUY.out.mem_from b z).2 ⟨h3, h2⟩
              rw [hnil] at h4
              cases h4
          have HEND := Lib.hid hend
          have HKE := Lib.hid (HMZ.out.kept.trans HP.out.2.1 (fun i hi h2 => by
            rcases HMZ.out.inF y (List.mem_of_getElem? HKZ.out) i h2 with h3 | h3
            · exact h3
            · omega))
          clear hnil hend
          go_wp2
          go_ret2
          exact .inl ⟨rfl, HEND.out, HKE.out⟩
        | false =>
          obtain ⟨q1, q2⟩ := HU.out.head HI.out.symm
          rw [← HD.out] at q1 q2
          have q3 := (HUY.out.mem_from b D).1 q1
          have q4 := HUY.out.most D q3.1
          have HMD : Hid (Moved Q (kidsF X) w w2 X (Z.set k ⟨y.p, fromL b y.l, F'⟩) D) := Lib.hid ((HMZ.out.turn hQ HKZ.out HP.out.1 HP.out.2.1 HP.out.2.2 (Int.le_refl b)).on q3.2)
          have HB4 : Hid (∀ z, (∀ x ∈ X, z ∈ x.l) → d ≤ z → D ≤ z) := Lib.hid fun z hz h1 => by
            have h2 := HB3.out z hz h1
            have h3 := (HNEAR.out.same z h2).2 (hz x (List.mem_of_getElem? HKX.out))
            exact q2 z ((HUY.out.mem_from b z).2 ⟨h3, h2⟩)
          have HAT2 : Hid (D = a → AtAll (Z.set k ⟨y.p, fromL b y.l, F'⟩) (k + 1) a) := Lib.hid fun e i v hi hv => by
            by_cases hik : k = i
            · subst hik
              rw [List.getElem?_set_self (List.getElem?_eq_some_iff.1 HKZ.out).1] at hv
              cases hv
              rw [← e]
              exact ⟨q1, q2⟩
            · rw [List.getElem?_set_ne hik] at hv
              exact HAT.out (by omega) i v (by omega) hv
          have hbD := q3.2
          clear q1 q2 q3
          go_wp2
          go_roundw
          case rel => exact ⟨k + 1, D, _, by go_num, by omega, rfl, by omega, q4, HB4.out, HMD.out, HAT2.out⟩
          case measure => simp [intOf]; omega
      · obtain rfl : k = n := by omega
        have hlz : ¬ ((k : Int) < (k : Int)) := by omega
        by_cases hba : b = a
        · subst hba
          have d1 : (b == b) = true := by simp
          have HRES : Hid (AtAll Z Z.length b) := Lib.hid (by rw [HMZ.out.len, HLX.out]; exact HAT.out rfl)
          go_wp2
          go_ret2
          exact .inr ⟨b, Z, rfl, ha1, ⟨by omega, hb2⟩, HB3.out, HMZ.out, HRES.out⟩
        · have d1 : (b == a) = false := by simpa using hba
          go_wp2
          go_roundw
          case rel => exact ⟨b, Z, rfl, by omega, hb2, HB3.out, HMZ.out⟩
          case measure => simp [intOf]; omega
end Go.Proofs.Ytkligdaademakaa
namespace Go.Proofs.Ytkligdaademakaa
open Go.RowKit Go.Maps Go.WideMaps Go.Shelf
set_option linter.unusedSimpArgs false

/-- Sets in a row of one's own, whose slice lies in block g. -/
structure RowK (Q : MvP) (w : World) (F : Nat → Prop) (g : Nat) (A : Option Addr) (c : Nat) (X : List SV) : Prop where
  blk : Blk w g 60 #[.slice A X.length c]
  src : Src w A X.length (X.map fun x => Value.pointer x.p)
  few : X.length ≤ 1000000
  kids : Kids Q w X
  inF : ∀ x ∈ X, ∀ b, x.F b → F b ∧ b ≠ g
  mem : F g
  row : ∀ ad, A = some ad → 0 < X.length → F ad.block ∧ ad.block ≠ g ∧ ∀ x ∈ X, ¬ x.F ad.block
  lt : ∀ i, F i → i < w.heap.size
theorem RowK.keep {Q : MvP} (hQ : MovesOk Q) {w w' : World} {F : Nat → Prop} {g : Nat} {A : Option Addr} {c : Nat} {X : List SV} (h : RowK Q w F g A c X) (hk : ∀ b, F b → w'.heap[b]? = w.heap[b]?) (hs : w.heap.size ≤ w'.heap.size) : RowK Q w' F g A c X where
  blk := (hk g h.mem).trans h.blk
  src := h.src.keep fun ad e h0 => hk _ (h.row ad e h0).1
  few := h.few
  kids := h.kids.keep hQ (fun x hx b hb => hk b (h.inF x hx b hb).1) hs
  inF := h.inF
  mem := h.mem
  row := h.row
  lt := fun i hi => Nat.lt_of_lt_of_le (h.lt i hi) hs
/-- They have moved; besides, the result's block was written. -/
theorem RowK.moved {Q : MvP} (hQ : MovesOk Q) {w w1 w2 w3 : World} {F : Nat → Prop} {g : Nat} {A : Option Addr} {c : Nat} {X Y : List SV} {d : Int} (h : RowK Q w F g A c X) (h1 : Below w.heap.size w w1) (hr : w.heap.size < w1.heap.size) {G : Nat → Prop} (hm : Moved Q G w1 w2 X Y d) (hG : ∀ b, G b → kidsF X b ∨ w.heap.size ≤ b) (h3 : Kept (fun i => i = w.heap.size) w2 w3) : RowK Q w3 (fun i => F i ∨ w.heap.size ≤ i ∧ i < w3.heap.size) g A c Y ∧ Kept F w w3 := by
  have hz1 := h1.size
  have hz2 := hm.kept.size
  have hz3 := h3.size
  have hng : ¬ ∃ x ∈ X, x.F g := fun ⟨x, hx, hf⟩ => (h.inF x hx g hf).2 rfl
  have hkept : Kept F w w3 := ((Kept.below h1).trans hm.kept (fun i hi hg => (hG i hg).elim (fun ⟨x, hx, hf⟩ => (h.inF x hx i hf).1) (fun e => by omega))).trans h3 (fun i hi e => by omega)
  have hsame : ∀ b, b < w.heap.size → (¬ ∃ x ∈ X, x.F b) → w3.heap[b]? = w.heap[b]? := fun b hb hn => (h3.block b (by omega) (by omega)).trans ((hm.kept.block b (by omega) (fun e => (hG b e).elim hn (fun e => by omega))).trans (h1.block b hb))
  have hyF : ∀ y ∈ Y, ∀ b, y.F b → (∃ x ∈ X, x.F b) ∨ w.heap.size < b := fun y hy b hb => (hm.inF y hy b hb).imp id (fun e => by omega)
  have hxl : ∀ b, (∃ x ∈ X, x.F b) → b < w.heap.size := fun b ⟨x, hx, hf⟩ => h.lt b (h.inF x hx b hf).1
  refine ⟨⟨?_, ?_, by rw [hm.len]; exact h.few, hm.kids.keep hQ (fun y hy b hb => h3.block b ((hm.kids.each y hy).lt b hb) (fun (e : b = w.heap.size) => ?_)) hz3, fun y hy b hb => ⟨?_, ?_⟩, .inl h.mem, fun ad e h0 => ⟨.inl (h.row ad e (by rw [← hm.len]; exact h0)).1, (h.row ad e (by rw [← hm.len]; exact h0)).2.1, fun y hy hb => ?_⟩, fun i hi => ?_⟩, hkept⟩
  · rw [hm.len]
    exact (hsame g (h.lt g h.mem) hng).trans h.blk
  · rw [hm.len, hm.ptrs]
    exact h.src.keep fun ad e h0 => hsame _ (h.lt _ (h.row ad e h0).1) (fun ⟨x, hx, hf⟩ => (h.row ad e h0).2.2 x hx hf)
  · rcases hyF y hy b hb with h2 | h2
    · have := hxl b h2; omega
    · omega
  · rcases hyF y hy b hb with ⟨x, hx, hf⟩ | h2
    · exact .inl (h.inF x hx b hf).1
    · have := (hm.kids.each y hy).lt b hb
      exact .inr ⟨by omega, by omega⟩
  · rcases hyF y hy b hb with ⟨x, hx, hf⟩ | h2
    · exact (h.inF x hx b hf).2
    · have := h.lt g h.mem; omega
  · rcases hyF y hy _ hb with ⟨x, hx, hf⟩ | h2
    · exact (h.row ad e (by rw [← hm.len]; exact h0)).2.2 x hx hf
    · have := h.lt _ (h.row ad e (by rw [← hm.len]; exact h0)).1; omega
  · rcases hi with hi | hi
    · have := h.lt i hi; omega
    · exact hi.2
/-- A set that stands at a. -/
theorem stands_at {Q : MvP} {w : World} {F : Nat → Prop} {p : Option Addr} {l : List Int} {a : Int} (h : SetLv Q w F p l) (ha : a ∈ l) (hl : ∀ z ∈ l, a ≤ z) : ∃ b m fv, p = some ⟨b, 0, none⟩ ∧ SetB Q w F b a m fv l ∧ RunOf l a m := by
  rcases h with ⟨_, rfl, _⟩ | ⟨b, a', m, fv, hp, h⟩
  · cases ha
  · rcases h.st with ⟨_, rfl⟩ | ⟨h1, h2⟩
    · cases ha
    · have h3 := h1.first a ha
      have h4 := hl a' h1.mem
      obtain rfl : a' = a := by omega
      exact ⟨b, m, fv, hp, h, h1⟩
def AndMv (Q : MvP) (w : World) (F : Nat → Prop) (fv : Value) (M : List Int) : Prop :=
  ∃ g A c X, fv = .func (.func 37) #[] #[at0 g] ∧ RowK Q w F g A c X ∧ 0 < X.length ∧ M = andL (X.map SV.l)
set_option maxHeartbeats 8000000 in
set_option maxRecDepth 100000 in
theorem and1_any {Q Q' : MvP} (hQ : MovesOk Q) (hS : ∀ {w F fv M}, AndMv Q w F fv M → Q' w F fv M) {w : World} {F : Nat → Prop} {fv : Value} {M : List Int} {g : Nat} {A : Option Addr} {c : Nat} {X : List SV} (hfv : fv = .func (.func 37) #[] #[at0 g]) (h : RowK Q w F g A c X) (h0 : 0 < X.length) (hM : M = andL (X.map SV.l)) (d : Int) (hd : fits64 d) :
    Calls Try.prog 37 #[.int .i64 d, at0 g] w (MoveOut Q' w F fv M d) := by
  have hX0 : X.map SV.l ≠ [] := fun e => by rw [List.map_eq_nil_iff] at e; rw [e] at h0; simp at h0
  have hups : ∀ l ∈ X.map SV.l, Up l := fun l hl => by
    obtain ⟨x, hx, rfl⟩ := List.mem_map.1 hl
    exact (h.kids.each x hx).up
  have hUM : Up M := by rw [hM]; exact up_and hups
  have hmem : ∀ z, z ∈ M ↔ ∀ x ∈ X, z ∈ x.l := fun z => by
    rw [hM, mem_andL hups hX0]
    simp
  obtain ⟨w1, hw1⟩ : ∃ z, z = w.alloc (.cells #[.int .i64 0, .int .i64 0] 68) := ⟨_, rfl⟩
  have hb1 : Below w.heap.size w w1 := by rw [hw1]; exact (Below.refl _ w).alloc (Nat.le_refl _) _
  have hz1 : w1.heap.size = w.heap.size + 1 := by rw [hw1]; simp
  have hr1 : Blk w1 w.heap.size 68 #[.int .i64 0, .int .i64 0] := by rw [hw1]; exact Blk.new _ _ _
  have hk1 := h.keep hQ (w' := w1) (fun b hb => hb1.block b (h.lt b hb)) hb1.size
  obtain ⟨n, hn⟩ : ∃ n, n = X.length := ⟨_, rfl⟩
  have hfew := h.few
  have hbk := hk1.blk
  have hsrc := hk1.src
  rw [← hn] at h0 hbk hsrc hfew
  have hmeet := meet_any hQ hk1.kids A n c hsrc (fun ad e h2 => ⟨by have := hk1.lt _ (hk1.row ad e (by omega)).1; omega, (hk1.row ad e (by omega)).2.2⟩) h0 hfew d hd
  have y0 := hbk.cell 0
  simp only [List.getElem?_toArray, List.getElem?_cons_zero] at y0
  have hgl := h.lt g h.mem
  have H := Lib.hid h
  have HM := Lib.hid hM
  have HUM := Lib.hid hUM
  have HMEM := Lib.hid hmem
  have HB1 := Lib.hid hb1
  have HR1 := Lib.hid hr1
  have HMEET := Lib.hid hmeet
  have HW1 := Lib.hid hw1
  have HNN := Lib.hid hn
  have HFV := Lib.hid hfv
  rw [HW1.out] at y0
  clear h hX0 hups hM hUM hmem hb1 hr1 hk1 hn hbk hsrc hmeet hw1 hfv
  unfold at0
  go_enter Try.func37, Try.ntmps37
  go_wp2_with fail
  rw [← HW1.out]
  refine HMEET.out.mono ?_
  rintro e w2 (⟨rfl, hend, hk2⟩ | ⟨a, Y, rfl, hda, hfa, hleast, hmv, hat⟩)
  · have hng : ∀ i, (∃ x ∈ X, x.F i) → i < w.heap.size := fun i ⟨x, hx, hf⟩ => H.out.lt i (H.out.inF x hx i hf).1
    have hr2 : Blk w2 w.heap.size 68 #[.int .i64 0, .int .i64 0] := HR1.out.kept hk2 (fun e => by have := hng _ e; omega)
    have r0 := hr2.cell 0
    have r1 := hr2.cell 1
    have q0 := hr2.frozen 0
    have q1 := hr2.frozen 1
    simp only [List.getElem?_toArray, List.getElem?_cons_zero, List.getElem?_cons_succ] at r0 r1
    have HR2 := Lib.hid hr2
    have HKF : Hid (Kept F w w2) := Lib.hid ((Kept.below HB1.out).trans hk2 (fun i _ ⟨x, hx, hf⟩ => (H.out.inF x hx i hf).1))
    have HEND := Lib.hid hend
    clear hng hr2 hend hk2
    go_wp2
    refine bodyPost_ret (results_cell_row rfl _ _ w.heap.size 68 #[.int .i64 0, .int .i64 0] (0, 0) _ rfl ?_ Try.underlying68 rfl runCells) rfl ?_
    · have := (HR2.out.set_ 0 (.int .i64 0)).set_ 1 (.int .i64 0)
      unfold Blk at this
      simpa using this
    · exact ⟨0, 0, rfl, (HKF.out.setCell (.inr (by simp only; omega)) _).setCell (.inr (by simp only; omega)) _, .inl ⟨rfl, fun x hx => HEND.out x ((HMEM.out x).1 hx)⟩⟩
  · have hlen := hmv.len
    have hr0 : Blk w2 w.heap.size 68 #[.int .i64 0, .int .i64 0] := HR1.out.kept hmv.kept (fun ⟨x, hx, hf⟩ => by have := H.out.lt _ (H.out.inF x hx _ hf).1; omega)
    have hbk2 : Blk w2 g 60 #[.slice A n c] := ((H.out.keep hQ (w' := w1) (fun b hb => HB1.out.block b (H.out.lt b hb)) HB1.out.size).blk.kept hmv.kept (fun ⟨x, hx, hf⟩ => (H.out.inF x hx g hf).2 rfl)) |> (by rw [HNN.out]; exact ·)
    have hkid : ∀ k : Nat, k < n → ∃ y b m fv, Y[k]? = some y ∧ y.p = some ⟨b, 0, none⟩ ∧ SetB Q w2 y.F b a m fv y.l ∧ RunOf y.l a m := fun k hk => by
      have hky : Y[k]? = some (Y[k]'(by have := HNN.out; omega)) := List.getElem?_eq_getElem _
      obtain ⟨h1, h2⟩ := hat k _ (by have := HNN.out; omega) hky
      obtain ⟨b, m, fv, h3, h4, h5⟩ := stands_at (hmv.kids.each _ (List.mem_of_getElem? hky)) h1 h2
      exact ⟨_, b, m, fv, hky, h3, h4, h5⟩
    obtain ⟨ad, rfl⟩ : ∃ ad, A = some ad := by
      cases hA : A with
      | none => have := H.out.src.nil hA; have := HNN.out; omega
      | some ad => exact ⟨ad, rfl⟩
    have hcells : ∀ w' : World, (∀ i, i < w2.heap.size → w'.heap[i]? = w2.heap[i]?) → ∀ (k : Nat) (y : SV), Y[k]? = some y → w'.cell? (ad.add k) = some (.pointer y.p) := fun w' hw' k y hy => by
      have hsrc : Src w' (some ad) X.length (Y.map fun x => Value.pointer x.p) := by
        rw [hmv.ptrs]
        exact H.out.src.keep fun ad' e h2 => by
          cases e
          have h3 := H.out.row ad rfl h2
          have h4 := H.out.lt _ h3.1
          rw [hw' _ (by have := hmv.kept.size; omega), hmv.kept.block _ (by omega) (fun ⟨x, hx, hf⟩ => h3.2.2 x hx hf), HB1.out.block _ h4]
      exact hsrc.cells ad rfl k _ (by rw [List.getElem?_map, hy]; rfl)
    obtain ⟨v0, b0, m0, fv0, hy0, hp0, hs0, hrun0⟩ := hkid 0 h0
    have hz2 := hmv.kept.size
    obtain ⟨w3, hw3⟩ : ∃ z, z = w2.alloc (.cells #[.int .i64 a, .int .i64 m0] 68) := ⟨_, rfl⟩
    have hb3 : Below w2.heap.size w2 w3 := by rw [hw3]; exact (Below.refl _ w2).alloc (Nat.le_refl _) _
    have hz3 : w3.heap.size = w2.heap.size + 1 := by rw [hw3]; simp
    have hg3 : Blk w3 w2.heap.size 68 #[.int .i64 a, .int .i64 m0] := by rw [hw3]; exact Blk.new _ _ _
    have c0 := hbk2.cell 0
    have c1 := hcells w2 (fun _ _ => rfl) 0 v0 hy0
    have c2 := hs0.blk.cell 1
    have hbk3 := hbk2.below hb3 hbk2.lt
    have c3 := hbk3.cell 0
    have e0 : ad.add 0 = ad := by simp [Addr.add]
    rw [hp0, e0] at c1
    simp only [List.getElem?_toArray, List.getElem?_cons_zero, List.getElem?_cons_succ] at c0 c2 c3
    have HW3 := Lib.hid hw3
    have HB3 := Lib.hid hb3
    have HG3 := Lib.hid hg3
    have HR0 := Lib.hid hr0
    have HKID := Lib.hid hkid
    have HCELLS := Lib.hid hcells
    have HMV := Lib.hid hmv
    have HAT := Lib.hid hat
    have HLEAST := Lib.hid hleast
    have HRUN0 := Lib.hid hrun0
    have HLEN := Lib.hid hlen
    have p0 : (0 : Int) < (n : Int) := by omega
    have hm0 := hrun0.pos
    have hm02 := hrun0.wide
    have hm03 := hrun0.fit
    have hm04 := hrun0.low
    rw [HW3.out] at c3
    clear hlen hr0 hbk2 hkid hcells hy0 hp0 hs0 hrun0 hw3 hb3 hg3 hbk3 hmv hat hleast e0
    go_wp2
    rw [← HW3.out]
    rw [← HW3.out] at c3
    go_loopw [29] (fun iv wr => ∃ (k : Nat) (m : Int), iv = .int .i64 k ∧ k ≤ n ∧ Blk wr w2.heap.size 68 #[.int .i64 a, .int .i64 m] ∧ 0 < m ∧ m ≤ m0 ∧ (∀ (i : Nat) (y : SV) (z : Int), i < k → Y[i]? = some y → a ≤ z → z < a + m → z ∈ y.l) ∧ Kept (fun i => i = w2.heap.size) w3 wr) (fun iv _ => n - (intOf iv).toNat)
    case atStart => exact ⟨0, m0, rfl, Nat.zero_le _, HG3.out, hm0, Int.le_refl _, fun i y z hi => by omega, Kept.refl _ _⟩
    case round =>
      obtain ⟨k, m, rfl, hkn, hgm, hm1, hm2, hin, hk3⟩ := hrel
      have HGM := Lib.hid hgm
      have HIN := Lib.hid hin
      have HK3 := Lib.hid hk3
      have hz4 := hk3.size
      clear hgm hin hk3
      rcases Nat.lt_or_ge k n with hlt | hge
      · have hlt' : (k : Int) < (n : Int) := by omega
        have p1 : (0 : Int) ≤ (k : Int) := by omega
        have hw5 : IntKind.i64.wrap ((k : Int) + 1) = (k : Int) + 1 := IntWalk.i64_in _ (by omega)
        obtain ⟨y, bk, mk, fk, hyk, hpk, hsk, hrk⟩ := HKID.out k hlt
        have hsame : ∀ i, i < w2.heap.size → wr.heap[i]? = w2.heap[i]? := fun i hi => (HK3.out.block i (by omega) (fun (e : i = w2.heap.size) => by omega)).trans (HB3.out.block i hi)
        have x0 := HCELLS.out wr hsame k y hyk
        rw [hpk] at x0
        have hbk : Blk wr bk 71 #[.int .i64 a, .int .i64 mk, fk] := (hsame bk hsk.blk.lt).trans hsk.blk
        have x1 := hbk.cell 1
        have x2 := HGM.out.cell 1
        have z2 := HGM.out.frozen 1
        simp only [List.getElem?_toArray, List.getElem?_cons_zero, List.getElem?_cons_succ] at x1 x2
        have HYK := Lib.hid hyk
        have HRK := Lib.hid hrk
        have hmk := hrk.pos
        clear hyk hpk hsk hrk hsame hbk
        have HK4 : Hid (Kept (fun i => i = w2.heap.size) w3 (wr.setCell ⟨w2.heap.size, 1, none⟩ (.int .i64 (min m mk)))) := Lib.hid (HK3.out.setCell (.inl rfl) _)
        have HGM4 : Hid (Blk (wr.setCell ⟨w2.heap.size, 1, none⟩ (.int .i64 (min m mk))) w2.heap.size 68 #[.int .i64 a, .int .i64 (min m mk)]) := Lib.hid (by simpa using HGM.out.set_ 1 (.int .i64 (min m mk)))
        have HIN4 : Hid (∀ (i : Nat) (y : SV) (z : Int), i < k + 1 → Y[i]? = some y → a ≤ z → z < a + min m mk → z ∈ y.l) := Lib.hid fun i v z hi hv h1 h2 => by
          rcases Nat.lt_or_ge i k with h3 | h3
          · exact HIN.out i v z h3 hv h1 (by omega)
          · obtain rfl : i = k := by omega
            obtain rfl := Option.some.inj (HYK.out.symm.trans hv)
            exact HRK.out.all z h1 (by omega)
        by_cases hmm : mk < m
        · have hmin : min m mk = mk := by omega
          rw [hmin] at HK4 HGM4 HIN4
          have d1 : decide (mk < m) = true := decide_eq_true hmm
          clear hmin
          go_wp2
          go_region
          go_wp2
          go_roundw
          case rel => exact ⟨k + 1, mk, by go_num, by omega, HGM4.out, hmk, by omega, HIN4.out, HK4.out.drew⟩
          case measure => simp [intOf]; omega
        · have hmin : min m mk = m := by omega
          rw [hmin] at HK4 HGM4 HIN4
          have d1 : decide (mk < m) = false := decide_eq_false hmm
          clear hmin
          go_wp2
          go_region
          go_wp2
          go_roundw
          case rel => exact ⟨k + 1, m, by go_num, by omega, HGM4.out, hm1, by omega, HIN4.out, HK4.out.drew⟩
          case measure => simp [intOf]; omega
      · obtain rfl : k = n := by omega
        have hlz : ¬ ((k : Int) < (k : Int)) := by omega
        have g0 := HGM.out.cell 0
        have g1 := HGM.out.cell 1
        have hne : w.heap.size ≠ w2.heap.size := by have := HR0.out.lt; omega
        have hr3 : Blk wr w.heap.size 68 #[.int .i64 0, .int .i64 0] := (HR0.out.below HB3.out HR0.out.lt).kept HK3.out hne
        have r0 := hr3.cell 0
        have r1 := hr3.cell 1
        have q0 := hr3.frozen 0
        have q1 := hr3.frozen 1
        simp only [List.getElem?_toArray, List.getElem?_cons_zero, List.getElem?_cons_succ] at g0 g1 r0 r1
        have HR3 := Lib.hid hr3
        clear hr3 hne
        go_wp2
        refine bodyPost_ret (results_cell_row rfl _ _ w.heap.size 68 #[.int .i64 a, .int .i64 m] (0, 0) _ rfl ?_ Try.underlying68 rfl runCells) rfl ?_
        · have := (HR3.out.set_ 0 (.int .i64 a)).set_ 1 (.int .i64 m)
          unfold Blk at this
          simpa using this
        · obtain ⟨w5, hw5⟩ : ∃ z, z = (wr.setCell ⟨w.heap.size, 0, none⟩ (.int .i64 a)).setCell ⟨w.heap.size, 1, none⟩ (.int .i64 m) := ⟨_, rfl⟩
          rw [← hw5]
          have hz5 : w5.heap.size = wr.heap.size := by rw [hw5, size_setCell', size_setCell']
          have hk5 : Kept (fun i => i = w.heap.size) w2 w5 := by
            rw [hw5]
            have h1 : Kept (fun i => i = w.heap.size) w2 wr := (Kept.below HB3.out).trans HK3.out (fun i hi e => by omega)
            exact (h1.setCell (.inl rfl) _).setCell (.inl rfl) _
          obtain ⟨hrow, hkept⟩ := H.out.moved hQ HB1.out (by omega) HMV.out (fun b h => .inl h) hk5
          have hups : ∀ l ∈ Y.map SV.l, Up l := fun l hl => by
            obtain ⟨x, hx, rfl⟩ := List.mem_map.1 hl
            exact (HMV.out.kids.each x hx).up
          have hY0 : Y.map SV.l ≠ [] := fun e => by rw [List.map_eq_nil_iff] at e; have h1 := HLEN.out; have h2 := HNN.out; rw [e, List.length_nil] at h1; omega
          have hmemY : ∀ z, z ∈ andL (Y.map SV.l) ↔ ∀ y ∈ Y, z ∈ y.l := fun z => by
            rw [mem_andL hups hY0]
            simp
          have hsame : ∀ z, a ≤ z → ((∀ y ∈ Y, z ∈ y.l) ↔ ∀ x ∈ X, z ∈ x.l) := fun z hz => by
            constructor
            · intro q x hx
              obtain ⟨i, hi⟩ := List.getElem?_of_mem hx
              have h2 := (List.getElem?_eq_some_iff.1 hi).1
              have h3 := List.getElem?_eq_getElem (l := Y) (i := i) (by have := HLEN.out; omega)
              exact ((HMV.out.near i _ _ hi h3).same z hz).1 (q _ (List.mem_of_getElem? h3))
            · intro q y hy
              obtain ⟨i, hi⟩ := List.getElem?_of_mem hy
              have h2 := (List.getElem?_eq_some_iff.1 hi).1
              have h3 := List.getElem?_eq_getElem (l := X) (i := i) (by have := HLEN.out; omega)
              exact ((HMV.out.near i _ _ h3 hi).same z hz).2 (q _ (List.mem_of_getElem? h3))
          refine ⟨a, m, rfl, hkept, .inr ⟨⟨hm1, hm04, by omega, by omega, fun z hz => ?_, fun z h1 h2 => ?_⟩, _, andL (Y.map SV.l), hS ⟨g, _, c, Y, HFV.out, hrow, by have := HLEN.out; have := HNN.out; omega, rfl⟩, up_and hups, fun i hi => hi.imp id And.left, fun z hz => ?_⟩⟩
          · obtain ⟨h1, h2⟩ := (HUM.out.mem_from d z).1 hz
            exact HLEAST.out z ((HMEM.out z).1 h1) h2
          · refine (HUM.out.mem_from d z).2 ⟨(HMEM.out z).2 ((hsame z h1).1 fun y hy => ?_), by omega⟩
            obtain ⟨i, hi⟩ := List.getElem?_of_mem hy
            have h3 := (List.getElem?_eq_some_iff.1 hi).1
            exact HIN.out i y z (by have := HLEN.out; have := HNN.out; omega) hi h1 h2
          · rw [hmemY, HMEM.out]
            exact hsame z (by omega)
end Go.Proofs.Ytkligdaademakaa
namespace Go.Proofs.Ytkligdaademakaa
open Go.RowKit Go.Maps Go.WideMaps Go.Shelf
set_option linter.unusedSimpArgs false

theorem Moved.some_iff {Q : MvP} {G : Nat → Prop} {w0 w : World} {X Y : List SV} {d : Int} (h : Moved Q G w0 w X Y d) {z : Int} (hz : d ≤ z) : (∃ y ∈ Y, z ∈ y.l) ↔ ∃ x ∈ X, z ∈ x.l := by
  have hl := h.len
  constructor
  · rintro ⟨y, hy, q⟩
    obtain ⟨i, hi⟩ := List.getElem?_of_mem hy
    have h2 := (List.getElem?_eq_some_iff.1 hi).1
    have h3 := List.getElem?_eq_getElem (l := X) (i := i) (by omega)
    exact ⟨_, List.mem_of_getElem? h3, ((h.near i _ _ h3 hi).same z hz).1 q⟩
  · rintro ⟨x, hx, q⟩
    obtain ⟨i, hi⟩ := List.getElem?_of_mem hx
    have h2 := (List.getElem?_eq_some_iff.1 hi).1
    have h3 := List.getElem?_eq_getElem (l := Y) (i := i) (by omega)
    exact ⟨_, List.mem_of_getElem? h3, ((h.near i _ _ hi h3).same z hz).2 q⟩
/-- What Or has found among the first k: the run of the least one. -/
def Least (Z : List SV) (k : Nat) (d a m : Int) : Prop :=
  (m = 0 ∧ ∀ (i : Nat) (y : SV), i < k → Z[i]? = some y → y.l = []) ∨
  (d ≤ a ∧ ∃ (j : Nat) (y : SV), j < k ∧ Z[j]? = some y ∧ RunOf y.l a m ∧ ∀ (i : Nat) (v : SV) (z : Int), i < k → Z[i]? = some v → z ∈ v.l → a ≤ z)
theorem Least.leave {Z Z' : List SV} {k : Nat} {d a m : Int} {y : SV} (h : Least Z k d a m) (ho : ∀ i, i < k → Z'[i]? = Z[i]?) (hk : Z'[k]? = some y) (hy : ∀ z ∈ y.l, 0 < m ∧ a ≤ z) : Least Z' (k + 1) d a m := by
  rcases h with ⟨rfl, h1⟩ | ⟨h1, j, v, h2, h3, h4, h5⟩
  · refine .inl ⟨rfl, fun i u hi hu => ?_⟩
    rcases Nat.lt_or_ge i k with h2 | h2
    · exact h1 i u h2 (by rw [← ho i h2]; exact hu)
    · obtain rfl : i = k := by omega
      rw [hk] at hu
      cases hu
      exact List.eq_nil_iff_forall_not_mem.2 fun z hz => by have := (hy z hz).1; omega
  · refine .inr ⟨h1, j, v, by omega, by rw [ho j h2]; exact h3, h4, fun i u z hi hu hz => ?_⟩
    rcases Nat.lt_or_ge i k with h6 | h6
    · exact h5 i u z h6 (by rw [← ho i h6]; exact hu) hz
    · obtain rfl : i = k := by omega
      rw [hk] at hu
      cases hu
      exact (hy z hz).2
theorem Least.take {Z Z' : List SV} {k : Nat} {d a m D m' : Int} {y : SV} (h : Least Z k d a m) (ho : ∀ i, i < k → Z'[i]? = Z[i]?) (hk : Z'[k]? = some y) (hr : RunOf y.l D m') (hd : d ≤ D) (hm : m = 0 ∨ D < a) : Least Z' (k + 1) d D m' := by
  refine .inr ⟨hd, k, y, by omega, hk, hr, fun i u z hi hu hz => ?_⟩
  rcases Nat.lt_or_ge i k with h6 | h6
  · rw [ho i h6] at hu
    rcases h with ⟨h1, h2⟩ | ⟨h1, j, v, h2, h3, h4, h5⟩
    · rw [h2 i u h6 hu] at hz; cases hz
    · have h7 := h5 i u z h6 hu hz
      have h8 := h4.pos
      omega
  · obtain rfl : i = k := by omega
    rw [hk] at hu
    cases hu
    exact hr.first z hz
def OrMv (Q : MvP) (w : World) (F : Nat → Prop) (fv : Value) (M : List Int) : Prop :=
  ∃ g A c X, fv = .func (.func 42) #[] #[at0 g] ∧ RowK Q w F g A c X ∧ M = orL (X.map SV.l)
set_option maxHeartbeats 8000000 in
set_option maxRecDepth 100000 in
theorem or1_any {Q Q' : MvP} (hQ : MovesOk Q) (hS : ∀ {w F fv M}, OrMv Q w F fv M → Q' w F fv M) {w : World} {F : Nat → Prop} {fv : Value} {M : List Int} {g : Nat} {A : Option Addr} {c : Nat} {X : List SV} (hfv : fv = .func (.func 42) #[] #[at0 g]) (h : RowK Q w F g A c X) (hM : M = orL (X.map SV.l)) (d : Int) (hd : fits64 d) :
    Calls Try.prog 42 #[.int .i64 d, at0 g] w (MoveOut Q' w F fv M d) := by
  have hups : ∀ l ∈ X.map SV.l, Up l := fun l hl => by
    obtain ⟨x, hx, rfl⟩ := List.mem_map.1 hl
    exact (h.kids.each x hx).up
  have hUM : Up M := by rw [hM]; exact up_or hups
  have hmem : ∀ z, z ∈ M ↔ ∃ x ∈ X, z ∈ x.l := fun z => by
    rw [hM, mem_orL hups]
    simp only [List.mem_map]
    exact ⟨fun ⟨l, ⟨a, ha, e⟩, hz⟩ => ⟨a, ha, by rw [e]; exact hz⟩, fun ⟨x, hx, hz⟩ => ⟨_, ⟨x, hx, rfl⟩, hz⟩⟩
  obtain ⟨w1, hw1⟩ : ∃ z, z = (w.alloc (.cells #[.int .i64 0, .int .i64 0] 68)).alloc (.cells #[.int .i64 0, .int .i64 0] 68) := ⟨_, rfl⟩
  have hb1 : Below w.heap.size w w1 := by rw [hw1]; exact ((Below.refl _ w).alloc (Nat.le_refl _) _).alloc (by simp) _
  have hz1 : w1.heap.size = w.heap.size + 1 + 1 := by rw [hw1]; simp
  have hr1 : Blk w1 w.heap.size 68 #[.int .i64 0, .int .i64 0] := by rw [hw1]; exact (Blk.new _ _ _).alloc _
  have hf1 : Blk w1 (w.heap.size + 1) 68 #[.int .i64 0, .int .i64 0] := by
    rw [hw1]
    have := Blk.new (w.alloc (.cells #[.int .i64 0, .int .i64 0] 68)) 68 #[.int .i64 0, .int .i64 0]
    simpa using this
  have hk1 := h.keep hQ (w' := w1) (fun b hb => hb1.block b (h.lt b hb)) hb1.size
  obtain ⟨n, hn⟩ : ∃ n, n = X.length := ⟨_, rfl⟩
  have hfew := h.few
  have hbk := hk1.blk
  rw [← hn] at hbk hfew
  have y0 := hbk.cell 0
  simp only [List.getElem?_toArray, List.getElem?_cons_zero] at y0
  have hkl : ∀ b, kidsF X b → b < w.heap.size := fun b ⟨x, hx, hf⟩ => h.lt b (h.inF x hx b hf).1
  have hgl := h.lt g h.mem
  have hm1 : Moved Q (fun b => kidsF X b ∨ b = w.heap.size + 1) w1 w1 X X d := (Moved.start hk1.kids d).wide (fun _ h => .inl h)
  have H := Lib.hid h
  have HUM := Lib.hid hUM
  have HMEM := Lib.hid hmem
  have HB1 := Lib.hid hb1
  have HR1 := Lib.hid hr1
  have HF1 := Lib.hid hf1
  have HK1 := Lib.hid hk1
  have HKL := Lib.hid hkl
  have HM1 := Lib.hid hm1
  have HW1 := Lib.hid hw1
  have HNN := Lib.hid hn
  have HFV := Lib.hid hfv
  rw [HW1.out] at y0
  clear h hups hM hUM hmem hb1 hr1 hf1 hk1 hkl hm1 hn hbk hw1 hfv
  unfold at0
  go_enter Try.func42, Try.ntmps42
  go_wp2
  rw [← HW1.out]
  go_loopw [11] (fun iv wr => ∃ (k : Nat) (Z : List SV) (a m : Int), iv = .int .i64 k ∧ k ≤ n ∧ Moved Q (fun b => kidsF X b ∨ b = w.heap.size + 1) w1 wr X Z d ∧ Blk wr (w.heap.size + 1) 68 #[.int .i64 a, .int .i64 m] ∧ Least Z k d a m) (fun iv _ => n - (intOf iv).toNat)
  case atStart => exact ⟨0, X, 0, 0, rfl, Nat.zero_le _, HM1.out, HF1.out, .inl ⟨rfl, fun i y hi => by omega⟩⟩
  case round =>
    obtain ⟨k, Z, a, m, rfl, hkn, hmz, hbf, hleast⟩ := hrel
    have HMZ := Lib.hid hmz
    have HBF := Lib.hid hbf
    have HLE := Lib.hid hleast
    have hsz := hmz.kept.size
    clear hmz hbf hleast
    rcases Nat.lt_or_ge k n with hlt | hge
    · have hlt' : (k : Int) < (n : Int) := by omega
      have p0 : (0 : Int) ≤ (k : Int) := by omega
      have hw5 : IntKind.i64.wrap ((k : Int) + 1) = (k : Int) + 1 := IntWalk.i64_in _ (by omega)
      have hkx : X[k]? = some (X[k]'(by have := HNN.out; omega)) := List.getElem?_eq_getElem _
      have hkz : Z[k]? = some (Z[k]'(by have := HNN.out; have := HMZ.out.len; omega)) := List.getElem?_eq_getElem _
      obtain ⟨x, hx⟩ : ∃ x, x = X[k]'(by have := HNN.out; omega) := ⟨_, rfl⟩
      obtain ⟨y, hy⟩ : ∃ y, y = Z[k]'(by have := HNN.out; have := HMZ.out.len; omega) := ⟨_, rfl⟩
      rw [← hx] at hkx
      rw [← hy] at hkz
      have hnear := HMZ.out.near k x y hkx hkz
      have hset := HMZ.out.kids.each y (List.mem_of_getElem? hkz)
      obtain ⟨ad, rfl⟩ : ∃ ad, A = some ad := by
        cases hA : A with
        | none => have := H.out.src.nil hA; have := HNN.out; omega
        | some ad => exact ⟨ad, rfl⟩
      have hcell : wr.cell? (ad.add k) = some (.pointer y.p) := by
        rw [hnear.p]
        have hsrc : Src wr (some ad) X.length (X.map fun x => Value.pointer x.p) := HK1.out.src.keep fun ad' e h2 => by
          cases e
          have h3 := H.out.row ad rfl h2
          have h4 := H.out.lt _ h3.1
          exact HMZ.out.kept.block _ (by omega) (fun e => e.elim (fun ⟨x, hx, hf⟩ => h3.2.2 x hx hf) (fun e => by omega))
        exact hsrc.cells ad rfl k _ (by rw [List.getElem?_map, hkx]; rfl)
      have hto := seTo_any hQ hset d hd
      have HU := Lib.hid (hset.up.from d)
      obtain ⟨D, hD⟩ : ∃ z, z = (fromL d y.l).headD 0 := ⟨_, rfl⟩
      obtain ⟨I, hI⟩ : ∃ z, z = (fromL d y.l).isEmpty := ⟨_, rfl⟩
      unfold ToOut at hto
      rw [← hD, ← hI] at hto
      have HTO := Lib.hid hto
      have HD := Lib.hid hD
      have HI := Lib.hid hI
      have HKZ := Lib.hid hkz
      have HUY := Lib.hid hset.up
      clear hkx hkz hx hy hnear hset hto hD hI
      go_wp2_with fail
      refine HTO.out.mono ?_
      rintro e w2 ⟨rfl, F', h1, h2, h3⟩
      have HP := Lib.hid (And.intro h1 (And.intro h2 h3))
      have hzy : w.heap.size + 1 < wr.heap.size := by omega
      have hbf2 : Blk w2 (w.heap.size + 1) 68 #[.int .i64 a, .int .i64 m] := HBF.out.kept h2 (fun e => by
        rcases HMZ.out.inF y (List.mem_of_getElem? HKZ.out) _ e with h4 | h4
        · have := HKL.out _ h4; omega
        · omega)
      have HBF2 := Lib.hid hbf2
      have hmd : Moved Q (fun b => kidsF X b ∨ b = w.heap.size + 1) w1 w2 X (Z.set k ⟨y.p, fromL d y.l, F'⟩) d := HMZ.out.turn hQ HKZ.out h1 h2 h3 (Int.le_refl d)
      have HMD := Lib.hid hmd
      have f0 := hbf2.cell 0
      have f1 := hbf2.cell 1
      have z0 := hbf2.frozen 0
      have z1 := hbf2.frozen 1
      simp only [List.getElem?_toArray, List.getElem?_cons_zero, List.getElem?_cons_succ] at f0 f1
      have hself : (Z.set k ⟨y.p, fromL d y.l, F'⟩)[k]? = some ⟨y.p, fromL d y.l, F'⟩ := List.getElem?_set_self (List.getElem?_eq_some_iff.1 HKZ.out).1
      have HSELF := Lib.hid hself
      have hother : ∀ i, i < k → (Z.set k (⟨y.p, fromL d y.l, F'⟩ : SV))[i]? = Z[i]? := fun i hi => List.getElem?_set_ne (by omega)
      have HOTHER := Lib.hid hother
      clear h1 h2 h3 hbf2 hmd hself hother
      cases I with
      | true =>
        have hnil : fromL d y.l = [] := List.isEmpty_iff.1 HI.out.symm
        have HLE2 : Hid (Least (Z.set k ⟨y.p, fromL d y.l, F'⟩) (k + 1) d a m) := Lib.hid (HLE.out.leave HOTHER.out HSELF.out (fun z (hz : z ∈ fromL d y.l) => by rw [hnil] at hz; cases hz))
        clear hnil
        go_wp2
        go_roundw
        case rel => exact ⟨k + 1, _, a, m, by go_num, by omega, HMD.out, HBF2.out, HLE2.out⟩
        case measure => simp [intOf]; omega
      | false =>
        obtain ⟨q1, q2⟩ := HU.out.head HI.out.symm
        rw [← HD.out] at q1 q2
        have q3 := ((HUY.out.mem_from d D).1 q1).2
        obtain ⟨bk, mk, fk, hpk, hsk, hrk⟩ := stands_at HP.out.1 q1 q2
        have c0 := hsk.blk.cell 0
        have c1 := hsk.blk.cell 1
        simp only [List.getElem?_toArray, List.getElem?_cons_zero, List.getElem?_cons_succ] at c0 c1
        obtain ⟨p, l, Fy⟩ := y
        simp only at hpk
        subst hpk
        have HRK := Lib.hid hrk
        have HQ2 := Lib.hid q2
        have hw3 : Moved Q (fun b => kidsF X b ∨ b = w.heap.size + 1) w1 ((w2.setCell ⟨w.heap.size + 1, 0, none⟩ (.int .i64 D)).setCell ⟨w.heap.size + 1, 1, none⟩ (.int .i64 mk)) X (Z.set k ⟨some ⟨bk, 0, none⟩, fromL d l, F'⟩) d := HMD.out.wrote hQ (.inr rfl) (by omega) (fun e => by have := HKL.out _ e; omega) (((Kept.refl (fun i => i = w.heap.size + 1) w2).setCell (.inl rfl) _).setCell (.inl rfl) _)
        have hbf3 : Blk ((w2.setCell ⟨w.heap.size + 1, 0, none⟩ (.int .i64 D)).setCell ⟨w.heap.size + 1, 1, none⟩ (.int .i64 mk)) (w.heap.size + 1) 68 #[.int .i64 D, .int .i64 mk] := by simpa using (HBF2.out.set_ 0 (.int .i64 D)).set_ 1 (.int .i64 mk)
        have HMD3 := Lib.hid hw3
        have HBF3 := Lib.hid hbf3
        clear hrk hsk q1 q2 hw3 hbf3
        by_cases hm0 : m = 0
        · have d1 : (m == 0) = true := by simpa using hm0
          have HLE2 : Hid (Least (Z.set k ⟨some ⟨bk, 0, none⟩, fromL d l, F'⟩) (k + 1) d D mk) := Lib.hid (HLE.out.take HOTHER.out HSELF.out HRK.out q3 (.inl hm0))
          clear hm0
          go_wp2
          go_roundw
          case rel => exact ⟨k + 1, _, D, mk, by go_num, by omega, HMD3.out, HBF3.out, HLE2.out⟩
          case measure => simp [intOf]; omega
        · have d1 : (m == 0) = false := by simpa using hm0
          by_cases hda : D < a
          · have d2 : decide (D < a) = true := decide_eq_true hda
            have HLE2 : Hid (Least (Z.set k ⟨some ⟨bk, 0, none⟩, fromL d l, F'⟩) (k + 1) d D mk) := Lib.hid (HLE.out.take HOTHER.out HSELF.out HRK.out q3 (.inr hda))
            go_wp2
            go_roundw
            case rel => exact ⟨k + 1, _, D, mk, by go_num, by omega, HMD3.out, HBF3.out, HLE2.out⟩
            case measure => simp [intOf]; omega
          · have d2 : decide (D < a) = false := decide_eq_false hda
            have hmp : 0 < m := by
              rcases HLE.out with ⟨h1, _⟩ | ⟨_, _, _, _, _, h1, _⟩
              · omega
              · exact h1.pos
            have HLE2 : Hid (Least (Z.set k ⟨some ⟨bk, 0, none⟩, fromL d l, F'⟩) (k + 1) d a m) := Lib.hid (HLE.out.leave HOTHER.out HSELF.out (fun z hz => ⟨hmp, by have := HQ2.out z hz; omega⟩))
            go_wp2
            go_roundw
            case rel => exact ⟨k + 1, _, a, m, by go_num, by omega, HMD.out, HBF2.out, HLE2.out⟩
            case measure => simp [intOf]; omega
    · obtain rfl : k = n := by omega
      have hlz : ¬ ((k : Int) < (k : Int)) := by omega
      have g0 := HBF.out.cell 0
      have g1 := HBF.out.cell 1
      have hr3 : Blk wr w.heap.size 68 #[.int .i64 0, .int .i64 0] := HR1.out.kept HMZ.out.kept (fun e => e.elim (fun e => by have := HKL.out _ e; omega) (fun e => by omega))
      have r0 := hr3.cell 0
      have r1 := hr3.cell 1
      have q0 := hr3.frozen 0
      have q1 := hr3.frozen 1
      simp only [List.getElem?_toArray, List.getElem?_cons_zero, List.getElem?_cons_succ] at g0 g1 r0 r1
      have HR3 := Lib.hid hr3
      clear hr3
      go_wp2
      refine bodyPost_ret (results_cell_row rfl _ _ w.heap.size 68 #[.int .i64 a, .int .i64 m] (0, 0) _ rfl ?_ Try.underlying68 rfl runCells) rfl ?_
      · have := (HR3.out.set_ 0 (.int .i64 a)).set_ 1 (.int .i64 m)
        unfold Blk at this
        simpa using this
      · obtain ⟨w5, hw5⟩ : ∃ z, z = (wr.setCell ⟨w.heap.size, 0, none⟩ (.int .i64 a)).setCell ⟨w.heap.size, 1, none⟩ (.int .i64 m) := ⟨_, rfl⟩
        rw [← hw5]
        have hz5 : w5.heap.size = wr.heap.size := by rw [hw5, size_setCell', size_setCell']
        have hk5 : Kept (fun i => i = w.heap.size) wr w5 := by
          rw [hw5]
          exact ((Kept.refl (fun i => i = w.heap.size) wr).setCell (.inl rfl) _).setCell (.inl rfl) _
        obtain ⟨hrow, hkept⟩ := H.out.moved hQ HB1.out (by omega) HMZ.out (fun b h => h.imp id (fun e => by omega)) hk5
        have hlen := HMZ.out.len
        have hnn := HNN.out
        have hups : ∀ l ∈ Z.map SV.l, Up l := fun l hl => by
          obtain ⟨x, hx, rfl⟩ := List.mem_map.1 hl
          exact (HMZ.out.kids.each x hx).up
        have hmemZ : ∀ z, z ∈ orL (Z.map SV.l) ↔ ∃ y ∈ Z, z ∈ y.l := fun z => by
          rw [mem_orL hups]
          simp only [List.mem_map]
          exact ⟨fun ⟨l, ⟨a, ha, e⟩, hz⟩ => ⟨a, ha, by rw [e]; exact hz⟩, fun ⟨x, hx, hz⟩ => ⟨_, ⟨x, hx, rfl⟩, hz⟩⟩
        refine ⟨a, m, rfl, hkept, ?_⟩
        rcases HLE.out with ⟨h1, h2⟩ | ⟨h1, j, y, h2, h3, h4, h5⟩
        · refine .inl ⟨h1, fun z hz => ?_⟩
          rcases Int.lt_or_le z d with h6 | h6
          · exact h6
          · obtain ⟨y, hy, hzy⟩ := (HMZ.out.some_iff h6).2 ((HMEM.out z).1 hz)
            obtain ⟨i, hi⟩ := List.getElem?_of_mem hy
            rw [h2 i y (by have := (List.getElem?_eq_some_iff.1 hi).1; omega) hi] at hzy
            cases hzy
        · refine .inr ⟨⟨h4.pos, h4.low, h4.fit, h4.wide, fun z hz => ?_, fun z q1 q2 => ?_⟩, _, orL (Z.map SV.l), hS ⟨g, _, c, Z, HFV.out, hrow, rfl⟩, up_or hups, fun i hi => hi.imp id And.left, fun z hz => ?_⟩
          · obtain ⟨q1, q2⟩ := (HUM.out.mem_from d z).1 hz
            obtain ⟨y, hy, hzy⟩ := (HMZ.out.some_iff q2).2 ((HMEM.out z).1 q1)
            obtain ⟨i, hi⟩ := List.getElem?_of_mem hy
            exact h5 i y z (by have := (List.getElem?_eq_some_iff.1 hi).1; omega) hi hzy
          · exact (HUM.out.mem_from d z).2 ⟨(HMEM.out z).2 ((HMZ.out.some_iff (by omega)).1 ⟨y, List.mem_of_getElem? h3, h4.all z q1 q2⟩), by omega⟩
          · rw [hmemZ, HMEM.out]
            exact HMZ.out.some_iff (by have := h4.pos; omega)
end Go.Proofs.Ytkligdaademakaa
namespace Go.Proofs.Ytkligdaademakaa
open Go.RowKit Go.Maps Go.WideMaps Go.Shelf
set_option linter.unusedSimpArgs false

/-- Two sets, each pointer in a block of its own. -/
structure PairK (Q : MvP) (w : World) (F : Nat → Prop) (g h : Nat) (x y : SV) : Prop where
  blk : Blk w g 28 #[.pointer x.p]
  blk2 : Blk w h 28 #[.pointer y.p]
  kids : Kids Q w [x, y]
  inF : ∀ v ∈ [x, y], ∀ b, v.F b → F b ∧ b ≠ g ∧ b ≠ h
  mem : F g
  mem2 : F h
  lt : ∀ i, F i → i < w.heap.size
theorem PairK.keep {Q : MvP} (hQ : MovesOk Q) {w w' : World} {F : Nat → Prop} {g k : Nat} {x y : SV} (h : PairK Q w F g k x y) (hk : ∀ b, F b → w'.heap[b]? = w.heap[b]?) (hs : w.heap.size ≤ w'.heap.size) : PairK Q w' F g k x y where
  blk := (hk g h.mem).trans h.blk
  blk2 := (hk k h.mem2).trans h.blk2
  kids := h.kids.keep hQ (fun x hx b hb => hk b (h.inF x hx b hb).1) hs
  inF := h.inF
  mem := h.mem
  mem2 := h.mem2
  lt := fun i hi => Nat.lt_of_lt_of_le (h.lt i hi) hs
/-- They have moved; besides, the result's block was written. -/
theorem PairK.moved {Q : MvP} (hQ : MovesOk Q) {w w1 w2 w3 : World} {F : Nat → Prop} {g k : Nat} {x y x' y' : SV} {d : Int} (h : PairK Q w F g k x y) (h1 : Below w.heap.size w w1) (hr : w.heap.size < w1.heap.size) (hm : Moved Q (kidsF [x, y]) w1 w2 [x, y] [x', y'] d) (h3 : Kept (fun i => i = w.heap.size) w2 w3) : PairK Q w3 (fun i => F i ∨ w.heap.size ≤ i ∧ i < w3.heap.size) g k x' y' ∧ Kept F w w3 := by
  have hz1 := h1.size
  have hz2 := hm.kept.size
  have hz3 := h3.size
  have hng : ¬ kidsF [x, y] g := fun ⟨x, hx, hf⟩ => (h.inF x hx g hf).2.1 rfl
  have hnk : ¬ kidsF [x, y] k := fun ⟨x, hx, hf⟩ => (h.inF x hx k hf).2.2 rfl
  have hkept : Kept F w w3 := ((Kept.below h1).trans hm.kept (fun i _ ⟨x, hx, hf⟩ => (h.inF x hx i hf).1)).trans h3 (fun i hi e => by omega)
  have hsame : ∀ b, b < w.heap.size → (¬ kidsF [x, y] b) → w3.heap[b]? = w.heap[b]? := fun b hb hn => (h3.block b (by omega) (by omega)).trans ((hm.kept.block b (by omega) hn).trans (h1.block b hb))
  have hyF : ∀ v ∈ [x', y'], ∀ b, v.F b → kidsF [x, y] b ∨ w.heap.size < b := fun y hy b hb => (hm.inF y hy b hb).imp id (fun e => by omega)
  have hxl : ∀ b, kidsF [x, y] b → b < w.heap.size := fun b ⟨x, hx, hf⟩ => h.lt b (h.inF x hx b hf).1
  have hp := hm.near 0 x x' rfl rfl
  have hp2 := hm.near 1 y y' rfl rfl
  refine ⟨⟨?_, ?_, hm.kids.keep hQ (fun y hy b hb => h3.block b ((hm.kids.each y hy).lt b hb) (fun (e : b = w.heap.size) => ?_)) hz3, fun v hv b hb => ?_, .inl h.mem, .inl h.mem2, fun i hi => ?_⟩, hkept⟩
  · rw [hp.p]
    exact (hsame g (h.lt g h.mem) hng).trans h.blk
  · rw [hp2.p]
    exact (hsame k (h.lt k h.mem2) hnk).trans h.blk2
  · rcases hyF y hy b hb with h2 | h2
    · have := hxl b h2; omega
    · omega
  · rcases hyF v hv b hb with ⟨x, hx, hf⟩ | h2
    · have := h.inF x hx b hf
      exact ⟨.inl this.1, this.2⟩
    · have h4 := (hm.kids.each v hv).lt b hb
      have h5 := h.lt g h.mem
      have h6 := h.lt k h.mem2
      exact ⟨.inr ⟨by omega, by omega⟩, by omega, by omega⟩
  · rcases hi with hi | hi
    · have := h.lt i hi; omega
    · exact hi.2
theorem Moved.drew {Q : MvP} {G : Nat → Prop} (hQ : MovesOk Q) {w0 w : World} {X Y : List SV} {d : Int} (h : Moved Q G w0 w X Y d) : Moved Q G w0 w.drew X Y d := ⟨h.kids.keep hQ (fun _ _ _ _ => rfl) (Nat.le_refl _), h.len, h.near, h.kept.drew, h.sub, h.inF⟩
def LessMv (Q : MvP) (w : World) (F : Nat → Prop) (fv : Value) (M : List Int) : Prop :=
  ∃ g h x y, fv = .func (.func 44) #[] #[at0 g, at0 h] ∧ PairK Q w F g h x y ∧ M = lessI x.l y.l
/-- How far Less's loop may go on. -/
def lessMeas (a i : Value) : Nat := match i with
  | .bool true => (9223372036854775808 - intOf a).toNat + 1
  | _ => 0
set_option maxHeartbeats 8000000 in
set_option maxRecDepth 100000 in
theorem less1_any {Q Q' : MvP} (hQ : MovesOk Q) (hS : ∀ {w F fv M}, LessMv Q w F fv M → Q' w F fv M) {w : World} {F : Nat → Prop} {fv : Value} {M : List Int} {g k : Nat} {x y : SV} (hfv : fv = .func (.func 44) #[] #[at0 g, at0 k]) (h : PairK Q w F g k x y) (hM : M = lessI x.l y.l) (d : Int) (hd : fits64 d) :
    Calls Try.prog 44 #[.int .i64 d, at0 g, at0 k] w (MoveOut Q' w F fv M d) := by
  have hUM : Up M := by rw [hM]; exact (h.kids.each x (by simp)).up.lessI
  have hmem : ∀ z, z ∈ M ↔ z ∈ x.l ∧ z ∉ y.l := fun z => by rw [hM, mem_less]
  obtain ⟨w1, hw1⟩ : ∃ z, z = w.alloc (.cells #[.int .i64 0, .int .i64 0] 68) := ⟨_, rfl⟩
  have hb1 : Below w.heap.size w w1 := by rw [hw1]; exact (Below.refl _ w).alloc (Nat.le_refl _) _
  have hz1 : w1.heap.size = w.heap.size + 1 := by rw [hw1]; simp
  have hr1 : Blk w1 w.heap.size 68 #[.int .i64 0, .int .i64 0] := by rw [hw1]; exact Blk.new _ _ _
  have hk1 := h.keep hQ (w' := w1) (fun b hb => hb1.block b (h.lt b hb)) hb1.size
  have y0 := hk1.blk.cell 0
  simp only [List.getElem?_toArray, List.getElem?_cons_zero] at y0
  have hkl : ∀ b, kidsF [x, y] b → b < w.heap.size := fun b ⟨x, hx, hf⟩ => h.lt b (h.inF x hx b hf).1
  have hgl := h.lt g h.mem
  have hkl2 := h.lt k h.mem2
  have hm1 : Moved Q (kidsF [x, y]) w1 w1 [x, y] [x, y] d := Moved.start hk1.kids d
  have hto := seTo_any hQ (hk1.kids.each x (by simp)) d hd
  -- what lies in the two blocks, whatever moved
  have hcells : ∀ (w2 : World) (Y : List SV) (e : Int), Moved Q (kidsF [x, y]) w1 w2 [x, y] Y e → Blk w2 g 28 #[.pointer x.p] ∧ Blk w2 k 28 #[.pointer y.p] ∧ Blk w2 w.heap.size 68 #[.int .i64 0, .int .i64 0] := fun w2 Y e hm => ⟨hk1.blk.kept hm.kept (fun ⟨v, hv, hf⟩ => (h.inF v hv _ hf).2.1 rfl), hk1.blk2.kept hm.kept (fun ⟨v, hv, hf⟩ => (h.inF v hv _ hf).2.2 rfl), hr1.kept hm.kept (fun e => by have := hkl _ e; omega)⟩
  obtain ⟨D, hD⟩ : ∃ z, z = (fromL d x.l).headD 0 := ⟨_, rfl⟩
  obtain ⟨I, hI⟩ : ∃ z, z = (fromL d x.l).isEmpty := ⟨_, rfl⟩
  unfold ToOut at hto
  rw [← hD, ← hI] at hto
  have HUX := Lib.hid (h.kids.each x (by simp)).up
  have H := Lib.hid h
  have HUM := Lib.hid hUM
  have HMEM := Lib.hid hmem
  have HB1 := Lib.hid hb1
  have HKL := Lib.hid hkl
  have HM1 := Lib.hid hm1
  have HW1 := Lib.hid hw1
  have HFV := Lib.hid hfv
  have HTO := Lib.hid hto
  have HD := Lib.hid hD
  have HI := Lib.hid hI
  have HCELLS := Lib.hid hcells
  rw [HW1.out] at y0
  clear h hM hUM hmem hb1 hr1 hk1 hkl hm1 hw1 hfv hto hD hI hcells
  unfold at0
  go_enter Try.func44, Try.ntmps44
  go_wp2_with fail
  rw [← HW1.out]
  refine HTO.out.mono ?_
  rintro e w2 ⟨rfl, F', h1, h2, h3⟩
  have hm2 : Moved Q (kidsF [x, y]) w1 w2 [x, y] [⟨x.p, fromL d x.l, F'⟩, y] d := HM1.out.turn (k := 0) hQ rfl h1 h2 h3 (Int.le_refl d)
  have HM2 := Lib.hid hm2
  clear h1 h2 h3 hm2
  go_wp2
  go_loopw [5, 6] (fun av iv wr => ∃ (x' y' : SV) (e : Int), av = .int .i64 (x'.l.headD 0) ∧ iv = .bool (!x'.l.isEmpty) ∧ d ≤ e ∧ Moved Q (kidsF [x, y]) w1 wr [x, y] [x', y'] e ∧ (∀ z ∈ x'.l, e ≤ z) ∧ ∀ z, z ∈ x.l → z ∉ y.l → d ≤ z → e ≤ z) (fun av iv _ => lessMeas av iv)
  case atStart => exact ⟨⟨x.p, fromL d x.l, F'⟩, y, d, by rw [HD.out], by rw [HI.out], Int.le_refl _, HM2.out, fun z hz => ((HUX.out.mem_from d z).1 hz).2, fun z _ _ h => h⟩
  case round =>
    obtain ⟨x', y', e, rfl, rfl, hde, hmv, hxe, hno⟩ := hrel
    have hcl := HCELLS.out _ _ _ hmv
    have HMV := Lib.hid hmv
    have HNO := Lib.hid hno
    have HXE := Lib.hid hxe
    have hux := (hmv.kids.each x' (by simp)).up
    have HUX' := Lib.hid hux
    have hnx := hmv.near 0 x x' rfl rfl
    have hny := hmv.near 1 y y' rfl rfl
    have HNX := Lib.hid hnx
    have HNY := Lib.hid hny
    obtain ⟨D, hD⟩ : ∃ z, z = x'.l.headD 0 := ⟨_, rfl⟩
    obtain ⟨I, hI⟩ : ∃ z, z = x'.l.isEmpty := ⟨_, rfl⟩
    rw [← hD, ← hI]
    have HD := Lib.hid hD
    have HI := Lib.hid hI
    have c0 := hcl.1.cell 0
    have c1 := hcl.2.1.cell 0
    have r0 := hcl.2.2.cell 0
    have r1 := hcl.2.2.cell 1
    have q0 := hcl.2.2.frozen 0
    have q1 := hcl.2.2.frozen 1
    have HR := Lib.hid hcl.2.2
    simp only [List.getElem?_toArray, List.getElem?_cons_zero, List.getElem?_cons_succ] at c0 c1 r0 r1
    clear hmv hno hxe hux hnx hny hcl hD hI
    cases I with
    | true =>
      have hnil : x'.l = [] := List.isEmpty_iff.1 HI.out.symm
      have HEND : Hid (∀ z ∈ M, z < d) := Lib.hid fun z hz => by
        obtain ⟨h1, h2⟩ := (HMEM.out z).1 hz
        rcases Int.lt_or_le z d with h3 | h3
        · exact h3
        · have h4 := (HNX.out.same z (HNO.out z h1 h2 h3)).2 h1
          rw [hnil] at h4
          cases h4
      clear hnil
      go_wp2
      refine bodyPost_ret (results_cell_row rfl _ _ w.heap.size 68 #[.int .i64 0, .int .i64 0] (0, 0) _ rfl ?_ Try.underlying68 rfl runCells) rfl ?_
      · have := (HR.out.set_ 0 (.int .i64 0)).set_ 1 (.int .i64 0)
        unfold Blk at this
        simpa using this
      · have hkF : Kept F w wr := (Kept.below HB1.out).trans HMV.out.kept (fun i _ ⟨x, hx, hf⟩ => (H.out.inF x hx i hf).1)
        exact ⟨0, 0, rfl, (hkF.setCell (.inr (by simp only; omega)) _).setCell (.inr (by simp only; omega)) _, .inl ⟨rfl, HEND.out⟩⟩
    | false =>
      obtain ⟨s1, s2⟩ := HUX'.out.head HI.out.symm
      rw [← HD.out] at s1 s2
      have s3 := HXE.out D s1
      have s4 := HUX'.out.most D s1
      have s5 := HUX'.out.pos D s1
      obtain ⟨ba, ma, fa, hpa, hsa, hra⟩ := stands_at (HMV.out.kids.each x' (by simp)) s1 s2
      have hto := seTo_any hQ (HMV.out.kids.each y' (by simp)) D ⟨by omega, s4⟩
      obtain ⟨E, hE⟩ : ∃ z, z = (fromL D y'.l).headD 0 := ⟨_, rfl⟩
      obtain ⟨J, hJ⟩ : ∃ z, z = (fromL D y'.l).isEmpty := ⟨_, rfl⟩
      unfold ToOut at hto
      rw [← hE, ← hJ] at hto
      rw [HNX.out.p] at hpa
      rw [HNY.out.p] at hto
      have HTO := Lib.hid hto
      have HE := Lib.hid hE
      have HJ := Lib.hid hJ
      have HSA := Lib.hid hsa
      have HRA := Lib.hid hra
      have HPA := Lib.hid hpa
      have HS1 := Lib.hid s1
      have HS2 := Lib.hid s2
      have HUY := Lib.hid (HMV.out.kids.each y' (by simp)).up
      clear hto hE hJ hsa hra s1 s2
      rw [hpa] at c0
      clear hpa
      go_wp2_with fail
      refine HTO.out.mono ?_
      rintro e' w3 ⟨rfl, G', h1, h2, h3⟩
      rw [← HNY.out.p] at h1
      have hm3 : Moved Q (kidsF [x, y]) w1 w3 [x, y] [x', ⟨y'.p, fromL D y'.l, G'⟩] D := (HMV.out.on s3).turn (k := 1) hQ rfl h1 h2 h3 (Int.le_refl D)
      have hcl := HCELLS.out _ _ _ hm3
      have hsa3 := HSA.out.keep hQ (w' := w3) (fun i hi => h2.block i (HSA.out.lt i hi) (HMV.out.kids.far (i := 0) (k := 1) rfl rfl (by omega) i hi)) h2.size
      have HSA3 := Lib.hid hsa3
      have HM3 := Lib.hid hm3
      have HK3 := Lib.hid h1
      have c0 := hcl.1.cell 0
      have c1 := hcl.2.1.cell 0
      have r0 := hcl.2.2.cell 0
      have r1 := hcl.2.2.cell 1
      have q0 := hcl.2.2.frozen 0
      have q1 := hcl.2.2.frozen 1
      have a0 := hsa3.blk.cell 0
      have a1 := hsa3.blk.cell 1
      have HR3 := Lib.hid hcl.2.2
      rw [HPA.out] at c0
      simp only [List.getElem?_toArray, List.getElem?_cons_zero, List.getElem?_cons_succ] at c0 c1 r0 r1 a0 a1
      have HKF : Hid (Kept F w w3) := Lib.hid ((Kept.below HB1.out).trans hm3.kept (fun i _ ⟨x, hx, hf⟩ => (H.out.inF x hx i hf).1))
      -- what holds of an answer that begins at D
      have hans : ∀ (m : Int) (w5 : World), 0 < m → m ≤ ma → (∀ z, D ≤ z → z < D + m → z ∉ y.l) → Kept (fun i => i = w.heap.size) w3 w5 → MoveOut Q' w F fv M d (.returned (.agg #[.int .i64 D, .int .i64 m])) w5 := fun m w5 hm0 hma hny hk5 => by
        obtain ⟨hpk, hkept⟩ := H.out.moved hQ HB1.out (by omega) hm3 hk5
        have hn0 := hm3.near 0 x x' rfl rfl
        have hn1 := hm3.near 1 y _ rfl rfl
        have q1 := HRA.out.low
        have q2 := HRA.out.fit
        have q3 := HRA.out.wide
        refine ⟨D, m, rfl, hkept, .inr ⟨⟨hm0, q1, by omega, by omega, fun z hz => ?_, fun z h4 h5 => ?_⟩, _, lessI x'.l (fromL D y'.l), hS ⟨g, k, _, _, HFV.out, hpk, rfl⟩, HUX'.out.lessI, fun i hi => hi.imp id And.left, fun z hz => ?_⟩⟩
        · obtain ⟨h4, h5⟩ := (HUM.out.mem_from d z).1 hz
          obtain ⟨h6, h7⟩ := (HMEM.out z).1 h4
          exact HS2.out z ((HNX.out.same z (HNO.out z h6 h7 h5)).2 h6)
        · refine (HUM.out.mem_from d z).2 ⟨(HMEM.out z).2 ⟨(hn0.same z h4).1 (HRA.out.all z h4 (by omega)), hny z h4 h5⟩, by omega⟩
        · rw [mem_less, HMEM.out, hn0.same z (by omega)]
          have := hn1.same z (by omega)
          simp only at this
          rw [this]
      have HANS := Lib.hid hans
      clear h1 h2 h3 hm3 hcl hsa3 hans
      cases J with
      | true =>
        have hnil : fromL D y'.l = [] := List.isEmpty_iff.1 HJ.out.symm
        have HNI : Hid (∀ z, D ≤ z → z < D + ma → z ∉ y.l) := Lib.hid fun z h1 _ h2 => by
          have h3 := (HUY.out.mem_from D z).2 ⟨(HNY.out.same z (by omega)).2 h2, h1⟩
          rw [hnil] at h3
          cases h3
        clear hnil
        go_wp2
        refine bodyPost_ret (results_cell_row rfl _ _ w.heap.size 68 #[.int .i64 D, .int .i64 ma] (0, 0) _ rfl ?_ Try.underlying68 rfl runCells) rfl ?_
        · have := (HR3.out.set_ 0 (.int .i64 D)).set_ 1 (.int .i64 ma)
          unfold Blk at this
          simpa using this
        · exact HANS.out ma _ HRA.out.pos (Int.le_refl _) HNI.out (((Kept.refl (fun i => i = w.heap.size) w3).setCell (.inl rfl) _).setCell (.inl rfl) _)
      | false =>
        obtain ⟨s6, s7⟩ := (HUY.out.from D).head HJ.out.symm
        rw [← HE.out] at s6 s7
        have s8 := (HUY.out.mem_from D E).1 s6
        have s9 := HUY.out.most E s8.1
        have hap := HRA.out.pos
        have haw := HRA.out.wide
        by_cases hlt : D < E
        · have d1 : decide (D < E) = true := decide_eq_true hlt
          have hw1 : IntKind.i64.wrap (E - D) = E - D := IntWalk.i64_in _ (by omega)
          have HNI : Hid (∀ z, D ≤ z → z < E → z ∉ y.l) := Lib.hid fun z h1 h4 h2 => by
            have h3 := s7 z ((HUY.out.mem_from D z).2 ⟨(HNY.out.same z (by omega)).2 h2, h1⟩)
            omega
          clear s6 s7 s8
          by_cases hmm : E - D < ma
          · have d2 : decide (E - D < ma) = true := decide_eq_true hmm
            go_wp2
            refine bodyPost_ret (results_cell_row rfl _ _ w.heap.size 68 #[.int .i64 D, .int .i64 (E - D)] (0, 0) _ rfl ?_ Try.underlying68 rfl runCells) rfl ?_
            · have := (HR3.out.set_ 0 (.int .i64 D)).set_ 1 (.int .i64 (E - D))
              unfold Blk at this
              simpa using this
            · exact HANS.out (E - D) _ (by omega) (by omega) (fun z h1 h2 => HNI.out z h1 (by omega)) (((Kept.refl (fun i => i = w.heap.size) w3).setCell (.inl rfl) _).setCell (.inl rfl) _)
          · have d2 : decide (E - D < ma) = false := decide_eq_false hmm
            go_wp2
            refine bodyPost_ret (results_cell_row rfl _ _ w.heap.size 68 #[.int .i64 D, .int .i64 ma] (0, 0) _ rfl ?_ Try.underlying68 rfl runCells) rfl ?_
            · have := (HR3.out.set_ 0 (.int .i64 D)).set_ 1 (.int .i64 ma)
              unfold Blk at this
              simpa using this
            · exact HANS.out ma _ hap (Int.le_refl _) (fun z h1 h2 => HNI.out z h1 (by omega)) (((Kept.refl (fun i => i = w.heap.size) w3).setCell (.inl rfl) _).setCell (.inl rfl) _)
        · obtain rfl : E = D := by omega
          have d1 : decide (E < E) = false := by simp
          obtain ⟨bb, mb, fb, hpb, hsb, hrb⟩ := stands_at HK3.out s6 s7
          rw [HNY.out.p] at hpb
          rw [hpb] at c1
          have b1 := hsb.blk.cell 1
          simp only [List.getElem?_toArray, List.getElem?_cons_zero, List.getElem?_cons_succ] at b1
          have hmb := hrb.pos
          have hmb2 := hrb.wide
          have hmb3 := hrb.fit
          have HRB := Lib.hid hrb
          have HPASS := Lib.hid (sePass_any hQ (w := w3.drew) (HSA3.out.keep hQ (w' := w3.drew) (fun _ _ => rfl) (Nat.le_refl _)) hap mb (by omega) hmb2)
          have HPB := Lib.hid hpb
          clear s6 s7 s8 hpb hsb hrb
          go_wp2_with fail
          go_still_tail 6, (by kernel_rfl)
          change wpList _ _ _ _ _ w3.drew
          go_wp2_with fail
          refine HPASS.out.mono ?_
          rintro e' w4 ⟨rfl, F2, h1, h2, h3⟩
          have hse : (some ⟨ba, 0, none⟩ : Option Addr) = x'.p := by rw [HNX.out.p, HPA.out]
          rw [hse] at h1
          have hm4 : Moved Q (kidsF [x, y]) w1 w4 [x, y] [⟨x'.p, fromL (E + mb) x'.l, F2⟩, ⟨y'.p, fromL E y'.l, G'⟩] (E + mb) := ((HM3.out.drew hQ).on (by omega)).turn (k := 0) hQ rfl h1 h2 h3 (Int.le_refl _)
          have hcl := HCELLS.out _ _ _ hm4
          have hdoc := seDoc_any h1
          have c0 := hcl.1.cell 0
          simp only [List.getElem?_toArray, List.getElem?_cons_zero] at c0
          rw [HNX.out.p] at hdoc
          have HDOC := Lib.hid hdoc
          have HM4 := Lib.hid hm4
          clear h1 h2 h3 hse hm4 hcl hdoc
          go_wp2_with fail
          refine HDOC.out.mono ?_
          rintro e' w5 ⟨rfl, hw⟩
          rw [hw]
          clear hw
          go_wp2
          go_roundw
          case rel => exact ⟨⟨x'.p, fromL (E + mb) x'.l, F2⟩, ⟨y'.p, fromL E y'.l, G'⟩, E + mb, by simp, rfl, by omega, HM4.out, fun z hz => ((HUX'.out.mem_from _ z).1 hz).2, fun z h1 h2 h3 => by
            have h4 := HNO.out z h1 h2 h3
            have h5 := HS2.out z ((HNX.out.same z h4).2 h1)
            rcases Int.lt_or_le z (E + mb) with h6 | h6
            · exact absurd ((HNY.out.same z h4).1 ((HUY.out.mem_from E z).1 (HRB.out.all z h5 h6)).1) h2
            · exact h6⟩
          case measure =>
            have hu := HUX'.out.from (E + mb)
            cases hc : (fromL (E + mb) x'.l).isEmpty with
            | true => simp [lessMeas]
            | false =>
              obtain ⟨h1, _⟩ := hu.head hc
              have h2 := ((HUX'.out.mem_from _ _).1 h1).2
              have h3 := hu.most _ h1
              rw [List.headD_eq_head?_getD] at h2 h3
              simp only [lessMeas, intOf, Bool.not_false]
              omega
end Go.Proofs.Ytkligdaademakaa
