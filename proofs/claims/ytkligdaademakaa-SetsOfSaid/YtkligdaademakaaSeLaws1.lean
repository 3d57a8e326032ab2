/- SetsMany. -/
import Derived.Test.YtkligdaademakaaSeRow
import Derived.Test.YtkligdaademakaaZp6
namespace Go.Proofs.Ytkligdaademakaa
open Go.RowKit Go.Maps Go.WideMaps
set_option linter.unusedSimpArgs false

/-- Two rows of sets, apart. -/
structure Two (w : World) (base : Nat) (va vb : Value) (X Y : List SV) (G : Nat → Prop) (L : List SV) : Prop where
  ra : RowP w base va X G L
  rb : RowP w base vb Y G L
  ab : ∀ g, va.ownBlock = some g → vb.ownBlock ≠ some g
theorem Two.later {w w' : World} {base : Nat} {va vb : Value} {X Y L L' : List SV} {G G' : Nat → Prop} (h : Two w base va vb X Y G L) (hb : Below w.heap.size w w') (hG : ∀ b, G' b → G b ∨ w.heap.size ≤ b) (hL : ∀ x ∈ L', ∀ b, x.F b → (∃ y ∈ L, y.F b) ∨ w.heap.size ≤ b) : Two w' base va vb X Y G' L' :=
  ⟨h.ra.later (fun g e => hb.block g (h.ra.own.lt g e).2) hG hL, h.rb.later (fun g e => hb.block g (h.rb.own.lt g e).2) hG hL, h.ab⟩
theorem Two.more {w w' : World} {base : Nat} {va vb : Value} {X Y L : List SV} {G G' : Nat → Prop} (h : Two w base va vb X Y G L) (hb : Below w.heap.size w w') (hG : ∀ b, G' b → G b ∨ w.heap.size ≤ b) : Two w' base va vb X Y G' L := h.later hb hG (fun x hx _ hf => .inl ⟨x, hx, hf⟩)
theorem Two.add {w w' : World} {base : Nat} {va vb : Value} {X Y L : List SV} {G : Nat → Prop} {y : SV} (h : Two w base va vb X Y G L) (hb : Below w.heap.size w w') (hy : ∀ b, y.F b → w.heap.size ≤ b) : Two w' base va vb X Y G (L ++ [y]) := h.later hb (fun b e => .inl e) (fun x hx b hf => by
  rcases List.mem_append.1 hx with h1 | h1
  · exact .inl ⟨x, h1, hf⟩
  · rw [List.mem_singleton.1 h1] at hf; exact .inr (hy b hf))
section
variable {S : SetP} (hS : SetsOk S) {W w w2 : World} {G : Nat → Prop} {L X Y : List SV} {base : Nat} {va vb v' : Value} {o : Obj}
include hS
theorem Two.pushA (h : Two w base va vb X Y G L) (hp : Pool S W w G L) {y : SV} (hown : w2.ownsRow base 28 1 v' (X.length + 1) (X.map ptr ++ [ptr y])) (hg : (w.alloc o).grownBy w2 va.ownBlock) (hloc : v'.ownBlock = va.ownBlock ∨ v'.ownBlock = some (w.alloc o).heap.size) :
    Two w2 base v' vb (X ++ [y]) Y G L ∧ Pool S W w2 G L ∧ Goes w w2 G G := by
  obtain ⟨h1, h2, h3, h4⟩ := h.ra.push hS hp hown hg hloc
  refine ⟨⟨h1, h.rb.later (fun g e => h3.block g (h.rb.own.lt g e).2 (fun e2 => h.ab g e2 e)) (fun b e => .inl e) (fun x hx b hf => .inl ⟨x, hx, hf⟩), fun g e => ?_⟩, h2, ⟨_, h3, fun b e => (h.ra.far b e).1, fun _ e => e⟩⟩
  rcases h4 g e with h5 | h5
  · exact h.ab g h5
  · intro e2; have := (h.rb.own.lt g e2).2; omega
omit hS in
theorem Two.swap (h : Two w base va vb X Y G L) : Two w base vb va Y X G L := ⟨h.rb, h.ra, fun g e e2 => h.ab g e2 e⟩
theorem Two.pushB (h : Two w base va vb X Y G L) (hp : Pool S W w G L) {y : SV} (hown : w2.ownsRow base 28 1 v' (Y.length + 1) (Y.map ptr ++ [ptr y])) (hg : (w.alloc o).grownBy w2 vb.ownBlock) (hloc : v'.ownBlock = vb.ownBlock ∨ v'.ownBlock = some (w.alloc o).heap.size) :
    Two w2 base va v' X (Y ++ [y]) G L ∧ Pool S W w2 G L ∧ Goes w w2 G G := by
  obtain ⟨h1, h2, h3⟩ := h.swap.pushA hS hp hown hg hloc
  exact ⟨h1.swap, h2, h3⟩
end
/-- One pointer in a new block, as a source. -/
theorem one_ptr_src (w : World) (y : SV) : Src (w.alloc (.cells #[.pointer y.p] 28)) (some ⟨w.heap.size, 0, none⟩) 1 [ptr y] := by
  refine ⟨rfl, fun ad e j u hu => ?_, fun e => by cases e⟩
  cases e
  have hj : j = 0 := by
    have := (List.getElem?_eq_some_iff.1 hu).1
    simp at this
    exact this
  subst hj
  rw [show (⟨w.heap.size, 0, none⟩ : Addr).add 0 = ⟨w.heap.size, 0, none⟩ by simp [Addr.add], cell_of_row _ w.heap.size 0 _ 28 (0, 0) (heap_alloc_new w _)]
  simpa [ptr] using hu
def cntUp (L : List (List Int)) : Nat → Nat
  | 0 => 0
  | k + 1 => cntUp L k + 1 + (L.getD k []).length
theorem cntUp_le (L : List (List Int)) : ∀ k, k ≤ cntUp L k ∧ ∀ i, i < k → (L.getD i []).length ≤ cntUp L k
  | 0 => ⟨Nat.le_refl _, fun i h => by omega⟩
  | k + 1 => by
    obtain ⟨h1, h2⟩ := cntUp_le L k
    simp only [cntUp]
    refine ⟨by omega, fun i hi => ?_⟩
    rcases Nat.lt_or_ge i k with h3 | h3
    · have := h2 i h3; omega
    · obtain rfl : i = k := by omega
      omega
theorem orL_len (L : List (List Int)) (m : Nat) (h : ∀ x ∈ L, x.length ≤ m) : (orL L).length ≤ m * L.length := by
  unfold orL
  have : ∀ (L : List (List Int)) (a : List Int), (∀ x ∈ L, x.length ≤ m) → (L.foldl orI a).length ≤ a.length + m * L.length := by
    intro L
    induction L with
    | nil => intro a _; simp
    | cons x r ih =>
      intro a h
      have h1 := ih (orI a x) (fun y hy => h y (List.mem_cons_of_mem _ hy))
      have h2 := orI_len a x
      have h3 := h x (List.mem_cons_self ..)
      rw [List.foldl_cons, List.length_cons, Nat.mul_succ]
      omega
  have := this L [] h
  simpa using this
theorem andL_len (L : List (List Int)) (m : Nat) (h : ∀ x ∈ L, x.length ≤ m) : (andL L).length ≤ m := by
  cases L with
  | nil => simp [andL]
  | cons x r =>
    have : ∀ (r : List (List Int)) (a : List Int), a.length ≤ m → (r.foldl andI a).length ≤ m := by
      intro r
      induction r with
      | nil => intro a ha; exact ha
      | cons y r ih => intro a ha; exact ih _ (Nat.le_trans (List.length_filter_le _ _) ha)
    exact this r x (h x (List.mem_cons_self ..))
theorem orL_mem {L : List (List Int)} {y : Int} (h : y ∈ orL L) : ∃ x ∈ L, y ∈ x := by
  have : ∀ (L : List (List Int)) (a : List Int), y ∈ L.foldl orI a → y ∈ a ∨ ∃ x ∈ L, y ∈ x := by
    intro L
    induction L with
    | nil => intro a h; exact .inl h
    | cons x r ih =>
      intro a h
      rcases ih _ h with h1 | ⟨z, hz, h1⟩
      · rcases (mem_or _ _ _).1 h1 with h2 | h2
        · exact .inl h2
        · exact .inr ⟨x, List.mem_cons_self .., h2⟩
      · exact .inr ⟨z, List.mem_cons_of_mem _ hz, h1⟩
  rcases this L [] h with h1 | h1
  · cases h1
  · exact h1
theorem andL_mem {L : List (List Int)} {y : Int} (h : y ∈ andL L) : ∃ x ∈ L, y ∈ x := by
  cases L with
  | nil => cases h
  | cons x r =>
    have : ∀ (r : List (List Int)) (a : List Int), y ∈ r.foldl andI a → y ∈ a := by
      intro r
      induction r with
      | nil => intro a h; exact h
      | cons z r ih => intro a h; exact ((mem_and _ _ _).1 (ih _ h)).1
    exact ⟨x, List.mem_cons_self .., this r x h⟩

def pre (T : List (List Int)) (j : Nat) : List (List Int) := (T.take j).map listI
set_option maxHeartbeats 16000000 in
set_option maxRecDepth 100000 in
theorem setsMany_any {S : SetP} (hS : SetsOk S) (W : World) (A : Option Addr) (n c : Nat) (T : List (List Int)) (h : RowsSeeI W A n T) (hn : n ≤ 140737488351232) (hz : ∀ x ∈ T, x.length ≤ 140737488351232) :
    Calls Try.prog 7 #[.slice A n c] W fun e w' => e = .returned (.bool true) ∧ Below W.heap.size W w' := by
  obtain ⟨i0, hi, hz0, hz1, hz2⟩ := info_parts setInfo
  have HT := Lib.hid h
  have HLEN := Lib.hid h.len
  have HZ := Lib.hid hz
  clear h hz
  go_enter Try.func7, Try.ntmps7
  go_wp2_with fail
  refine (seHead_any hS W).mono ?_
  rintro e w0 ⟨rfl, hb0⟩
  have HB0 := Lib.hid hb0
  have HT0 := Lib.hid (HT.out.below hb0)
  clear hb0
  go_wp2
  go_loopw [4, 5] (fun v i wr => ∃ k N : Nat, k ≤ n ∧ v = .int .i64 N ∧ i = .int .i64 k ∧ wr = w0 ∧ N = cntUp T k ∧ N ≤ 281474976800000) (fun _ i _ => n - (intOf i).toNat)
  case atStart => exact ⟨0, 0, by omega, rfl, rfl, rfl, rfl, by omega⟩
  case round =>
    obtain ⟨k, N, hk, rfl, rfl, hwr, hN, hNb⟩ := hrel
    obtain rfl := hwr.symm
    have HN := Lib.hid hN
    clear hN
    by_cases hg : k < n ∧ N < 600
    · have hlt' : (k : Int) < (n : Int) := by omega
      have d1 : decide ((k : Int) < (n : Int)) = true := by simpa using hg.1
      have d2 : decide ((N : Int) < 600) = true := by simp; omega
      have p0 : (0 : Int) ≤ (k : Int) := by omega
      have hx : T[k]? = some (T[k]'(by rw [HLEN.out]; exact hg.1)) := List.getElem?_eq_getElem _
      obtain ⟨ad, B, cb, rfl, g1, g2, -⟩ := HT0.out.at_ k _ hx
      obtain ⟨x, hxe⟩ : ∃ x, x = T[k]'(by rw [HLEN.out]; exact hg.1) := ⟨_, rfl⟩
      rw [← hxe] at hx g1 g2
      have hxz := HZ.out x (List.mem_of_getElem? hx)
      have hxg : T.getD k [] = x := by rw [List.getD_eq_getElem?_getD, hx]; rfl
      obtain ⟨K, hK⟩ : ∃ K, K = x.length := ⟨_, rfl⟩
      rw [← hK] at g1 g2 hxz
      have HNX : Hid (N + 1 + K = cntUp T (k + 1)) := Lib.hid (by rw [cntUp, hxg, ← HN.out, hK])
      have hw2 : IntKind.i64.wrap ((N : Int) + 1) = (N : Int) + 1 := IntWalk.i64_in _ (by omega)
      have hw3 : IntKind.i64.wrap ((N : Int) + 1 + (K : Int)) = ((N + 1 + K : Nat) : Int) := by rw [IntWalk.i64_in _ (by omega)]; push_cast; rfl
      have hw5 : IntKind.i64.wrap ((k : Int) + 1) = (k : Int) + 1 := IntWalk.i64_in _ (by omega)
      clear hx hxe hxg hK
      go_wp2
      go_roundw
      case rel => exact ⟨k + 1, N + 1 + K, by omega, by go_num, by go_num, by first | rfl | trivial, HNX.out, by omega⟩
      case measure => simp [intOf]; omega
    · have hstop : k = n ∨ 600 ≤ N := by omega
      by_cases hbig : 600 ≤ N
      · have d3 : decide ((600 : Int) ≤ (N : Int)) = true := decide_eq_true (by omega)
        have d2 : decide ((N : Int) < 600) = false := by simp; omega
        by_cases hkn : k < n
        · have d1 : decide ((k : Int) < (n : Int)) = true := by simpa using hkn
          go_wp2
          go_ret
          exact ⟨rfl, HB0.out⟩
        · have d1 : decide ((k : Int) < (n : Int)) = false := by simpa using hkn
          go_wp2
          go_ret
          exact ⟨rfl, HB0.out⟩
      · obtain rfl : k = n := by omega
        have d3 : decide ((600 : Int) ≤ (N : Int)) = false := decide_eq_false (by omega)
        have d1 : decide ((k : Int) < (k : Int)) = false := by simp
        have hlz : ¬ ((k : Int) < (k : Int)) := by omega
        have hcnt := cntUp_le T k
        rw [← HN.out] at hcnt
        have hk6 : k ≤ 600 := by omega
        have HX6 : Hid (∀ x ∈ T, x.length ≤ 600) := Lib.hid fun x hx => by
          obtain ⟨i, hi⟩ := List.getElem?_of_mem hx
          have h1 := (List.getElem?_eq_some_iff.1 hi).1
          have h2 := hcnt.2 i (by rw [← HLEN.out]; exact h1)
          rw [List.getD_eq_getElem?_getD, hi] at h2
          simp only [Option.getD_some] at h2
          omega
        have HP0 := Lib.hid ((Pool.start S W).later hS HB0.out)
        clear hcnt hg hstop
        have hpl : ∀ j, ∀ x ∈ pre T j, x.length ≤ 600 := fun j x hx => by
          obtain ⟨y, hy, rfl⟩ := List.mem_map.1 hx
          have := HX6.out y (List.mem_of_mem_take hy)
          have := listUp_len y y.length
          unfold listI
          omega
        have HPL := Lib.hid hpl
        have hpf : ∀ j, ∀ x ∈ pre T j, ∀ y ∈ x, -9223372036854775808 ≤ y ∧ y ≤ 9223372036854775807 := fun j x hx y hy => by
          obtain ⟨z, hz, rfl⟩ := List.mem_map.1 hx
          obtain ⟨i, hi⟩ := List.getElem?_of_mem (List.mem_of_mem_take hz)
          obtain ⟨_, _, _, _, _, _, h4⟩ := HT0.out.at_ i z hi
          exact h4.2.2.1 y (list_mem hy)
        have HPF := Lib.hid hpf
        clear hpl hpf
        go_wp2
        go_loopw [6, 7, 8, 9, 10] (fun va vb vc vd i wr => ∃ (j : Nat) (G : Nat → Prop) (X Y L : List SV) (A1 A2 : Option Addr) (c1 c2 : Nat), j ≤ k ∧ i = .int .i64 j ∧ vc = .slice A1 (andL (pre T j)).length c1 ∧ vd = .slice A2 (orL (pre T j)).length c2 ∧ (andL (pre T j)).length ≤ c1 ∧ (orL (pre T j)).length ≤ c2 ∧ Pool S W wr G L ∧ L.Perm (X ++ Y) ∧ Two wr W.heap.size va vb X Y G L ∧ X.map SV.l = pre T j ∧ Y.map SV.l = pre T j ∧ Nums G wr A1 (andL (pre T j)).length (andL (pre T j)) ∧ Nums G wr A2 (orL (pre T j)).length (orL (pre T j))) (fun _ _ _ _ i _ => k - (intOf i).toNat)
        case atStart => exact ⟨0, fun b => b < W.heap.size, [], [], [], none, none, 0, 0, by omega, rfl, rfl, rfl, by simp [pre, andL], by simp [pre, orL], HP0.out, List.Perm.refl _, ⟨RowP.nil _ _ _ _, RowP.nil _ _ _ _, fun g e => by cases e⟩, rfl, rfl, nil_nums _ _, nil_nums _ _⟩
        case round =>
          obtain ⟨j, G, X, Y, L, A1, A2, c1, c2, hj, rfl, rfl, rfl, hc1, hc2, hP, hperm, h2, hX, hY, hN1, hN2⟩ := hrel
          have HP := Lib.hid hP
          have HPERM := Lib.hid hperm
          have H2 := Lib.hid h2
          have HX := Lib.hid hX
          have HY := Lib.hid hY
          have HN1 := Lib.hid hN1
          have HN2 := Lib.hid hN2
          have hXl : X.length = j := by have := congrArg List.length hX; simp [pre] at this; rw [this]; have := HLEN.out; omega
          have hYl : Y.length = j := by have := congrArg List.length hY; simp [pre] at this; rw [this]; have := HLEN.out; omega
          have HXL := Lib.hid hXl
          have HYL := Lib.hid hYl
          have hor := orL_len (pre T j) 600 (HPL.out j)
          have han := andL_len (pre T j) 600 (HPL.out j)
          have hprl : (pre T j).length = j := by rw [← hX, List.length_map, hXl]
          rw [hprl] at hor
          have HPRL := Lib.hid hprl
          obtain ⟨Ava, cva, hva⟩ := own_slice h2.ra.own
          obtain ⟨Avb, cvb, hvb⟩ := own_slice h2.rb.own
          rw [hXl] at hva
          rw [hYl] at hvb
          subst hva hvb
          have hbz := hP.below.size
          clear hP hperm h2 hX hY hN1 hN2 hXl hYl hprl
          rcases Nat.lt_or_ge j k with hlt | hge
          · have hlt' : (j : Int) < (k : Int) := by omega
            have p0 : (0 : Int) ≤ (j : Int) := by omega
            have hx : T[j]? = some (T[j]'(by rw [HLEN.out]; exact hlt)) := List.getElem?_eq_getElem _
            obtain ⟨ad, B, cb, rfl, g1, g2, g3⟩ := (HT.out.below HP.out.below).at_ j _ hx
            obtain ⟨x, hxe⟩ : ∃ x, x = T[j]'(by rw [HLEN.out]; exact hlt) := ⟨_, rfl⟩
            rw [← hxe] at hx g1 g2 g3
            clear g1 g2 g3 hxe
            obtain ⟨ad', B', cb', e1, g1, g2, g3⟩ := HT.out.at_ j x hx
            obtain rfl := Option.some.inj e1
            have HU : Hid (∀ u, Below W.heap.size W u → u.cell? (ad.add j) = some (.slice B' x.length cb') ∧ IntsIn u B' x.length x) := Lib.hid fun u hu => ⟨below_cells hu g1, g3.below hu⟩
            have HOLD : Hid (∀ a, B' = some a → 0 < x.length → a.block < W.heap.size) := Lib.hid g3.2.2.2
            have hx6 := HX6.out x (List.mem_of_getElem? hx)
            have HPRE : Hid (pre T (j + 1) = pre T j ++ [listI x]) := Lib.hid (by unfold pre; rw [List.take_add_one, hx]; simp)
            have hlx : (listI x).length ≤ x.length := by unfold listI; exact listUp_len x x.length
            have hw5 : IntKind.i64.wrap ((j : Int) + 1) = (j : Int) + 1 := IntWalk.i64_in _ (by omega)
            have t0 := (HU.out wr HP.out.below).1
            have HL1 := Lib.hid (HP.out.list hS (c := cb') (l := x) ⟨(HU.out wr HP.out.below).2, fun a e h0 => HP.out.old _ (HOLD.out a e h0)⟩ g2 (by omega))
            have HXS := Lib.hid hx
            clear e1 g1 g3 hx
            go_wp2_with fail
            refine HL1.out.mono ?_
            rintro e w1 ⟨y1, rfl, hl1, hp1, hb1, hf1⟩
            have HP1 := Lib.hid hp1
            have H21 := Lib.hid (H2.out.add hb1 hf1)
            have HN11 := Lib.hid (HN1.out.goes (Goes.below hb1 (fun _ e => e)))
            have HN21 := Lib.hid (HN2.out.goes (Goes.below hb1 (fun _ e => e)))
            have HY1 := Lib.hid hl1
            have HR1 : Hid (w1.ownsRow W.heap.size 28 1 (.slice Ava j cva) j (X.map ptr)) := Lib.hid (by have := H21.out.ra.own; rwa [HXL.out] at this)
            have hbz1 := hp1.below.size
            clear hl1 hp1 hb1 hf1 t0 HL1
            go_wp2_with (at_builtin; refine wpList_append_src _ rfl (.tmp 40) (.tmp 46) 60 rfl W.heap.size 28 i0 (.pointer none) 8 Try.underlying60 hi hz0 hz1 hz2 rfl _ j _ rfl (World.ownsRow.alloc HR1.out _) _ 1 1 _ rfl (one_ptr_src w1 y1) (ptr_one [y1]) (by unfold maxLen; omega) (by omega) (by simp; omega) ?_; intro v2 w2 hown hgrow hloc; obtain ⟨h21, hp2, hg2⟩ := H21.out.pushA hS HP1.out (y := y1) (by rw [HXL.out]; exact hown) hgrow hloc; obtain ⟨Av2, cv2, hv2⟩ := own_slice hown; subst hv2; have H22 := Lib.hid h21; have HP2 := Lib.hid hp2; have HN12 := Lib.hid (HN11.out.goes hg2); have HN22 := Lib.hid (HN21.out.goes hg2); have t2 := (HU.out w2 hp2.below).1; have HL3 := Lib.hid (hp2.list hS (c := cb') (l := x) ⟨(HU.out w2 hp2.below).2, fun a e h0 => hp2.old _ (HOLD.out a e h0)⟩ g2 (by omega)); clear hown hgrow hloc h21 hp2 hg2)
            refine HL3.out.mono ?_
            rintro e w3 ⟨y2, rfl, hl3, hp3, hb3, hf3⟩
            have HP3 := Lib.hid hp3
            have H23 := Lib.hid (H22.out.add hb3 hf3)
            have HN13 := Lib.hid (HN12.out.goes (Goes.below hb3 (fun _ e => e)))
            have HN23 := Lib.hid (HN22.out.goes (Goes.below hb3 (fun _ e => e)))
            have HY2 := Lib.hid hl3
            have HR3 : Hid (w3.ownsRow W.heap.size 28 1 (.slice Avb j cvb) j (Y.map ptr)) := Lib.hid (by have := H23.out.rb.own; rwa [HYL.out] at this)
            have hbz3 := hp3.below.size
            clear hl3 hp3 hb3 hf3 t2 HL3
            go_wp2_with (at_builtin; refine wpList_append_src _ rfl (.tmp 48) (.tmp 54) 60 rfl W.heap.size 28 i0 (.pointer none) 8 Try.underlying60 hi hz0 hz1 hz2 rfl _ j _ rfl (World.ownsRow.alloc HR3.out _) _ 1 1 _ rfl (one_ptr_src w3 y2) (ptr_one [y2]) (by unfold maxLen; omega) (by omega) (by simp; omega) ?_; intro v4 w4 hown hgrow hloc; obtain ⟨h24, hp4, hg4⟩ := H23.out.pushB hS HP3.out (y := y2) (by rw [HYL.out]; exact hown) hgrow hloc; obtain ⟨Av4, cv4, hv4⟩ := own_slice hown; subst hv4; have H24 := Lib.hid h24; have HP4 := Lib.hid hp4; have HN14 := Lib.hid (HN13.out.goes hg4); have HN24 := Lib.hid (HN23.out.goes hg4); have t4 := (HU.out w4 hp4.below).1; clear hown hgrow hloc h24 hp4 hg4)
            refine (r11List_any w4 B' x.length cb' x (HU.out w4 HP4.out.below).2 (by omega)).mono ?_
            rintro e w5 hn5
            have hxf := HPF.out (j + 1) (listI x) (by rw [HPRE.out]; simp)
            obtain ⟨A5, c5, G5, rfl, hc5, hp5, hm5, hg5, hb5, hG5⟩ := HP4.out.gain hS hxf (by unfold maxLen; omega) hn5
            have HP5 := Lib.hid hp5
            have HM5 := Lib.hid hm5
            have H25 := Lib.hid (H24.out.more hb5 hG5)
            have HN15 := Lib.hid (HN14.out.goes hg5)
            have HN25 := Lib.hid (HN24.out.goes hg5)
            clear hn5 hp5 hm5 hg5 hb5 hG5 t4
            go_wp2_with fail
            refine (r11Or_any w5 A2 A5 (orL (pre T j)).length (listI x).length c2 c5 (orL (pre T j)) (listI x) HN25.out.1 HM5.out.1 (by omega) (by omega)).mono ?_
            rintro e w6 hn6
            have hor6 : orL (pre T (j + 1)) = orI (orL (pre T j)) (listI x) := by rw [HPRE.out, orL_snoc]
            have hol6 := orL_len (pre T (j + 1)) 600 (HPL.out (j + 1))
            have hpl6 : (pre T (j + 1)).length ≤ j + 1 := by unfold pre; simp; omega
            have hol7 : 600 * (pre T (j + 1)).length ≤ 600 * 601 := Nat.mul_le_mul_left _ (by omega)
            rw [← hor6] at hn6
            obtain ⟨A6, c6, G6, rfl, hc6, hp6, hm6, hg6, hb6, hG6⟩ := HP5.out.gain hS (fun y hy => by obtain ⟨z, hz, hyz⟩ := orL_mem hy; exact HPF.out (j + 1) z hz y hyz) (by unfold maxLen; omega) hn6
            have HP6 := Lib.hid hp6
            have HN26 := Lib.hid hm6
            have H26 := Lib.hid (H25.out.more hb6 hG6)
            have HN16 := Lib.hid (HN15.out.goes hg6)
            have HM6 := Lib.hid (HM5.out.goes hg6)
            have HPERM2 : Hid ((L ++ [y1] ++ [y2]).Perm ((X ++ [y1]) ++ (Y ++ [y2]))) := Lib.hid (by
              have e1 : (L ++ [y1] ++ [y2]).Perm ((X ++ Y) ++ [y1] ++ [y2]) := (HPERM.out.append_right [y1]).append_right [y2]
              refine e1.trans ?_
              rw [List.append_assoc X Y, List.append_assoc X (Y ++ [y1]), List.append_assoc X [y1]]
              refine List.Perm.append_left X ?_
              rw [← List.append_assoc [y1]]
              exact List.Perm.append_right [y2] List.perm_append_comm)
            have HXM : Hid ((X ++ [y1]).map SV.l = pre T (j + 1)) := Lib.hid (by rw [List.map_append, HX.out, HPRE.out]; simp [HY1.out])
            have HYM : Hid ((Y ++ [y2]).map SV.l = pre T (j + 1)) := Lib.hid (by rw [List.map_append, HY.out, HPRE.out]; simp [HY2.out])
            clear hn6 hp6 hm6 hg6 hb6 hG6 hol6 hol7 hpl6 hor6
            by_cases hj0 : j = 0
            · have d5 : ((j : Int) == 0) = true := by rw [hj0]; rfl
              have HA7 : Hid (andL (pre T (j + 1)) = listI x) := Lib.hid (by rw [HPRE.out, hj0]; simp [pre, andL])
              clear hj0
              go_wp2
              go_roundw
              case rel => exact ⟨j + 1, G6, X ++ [y1], Y ++ [y2], L ++ [y1] ++ [y2], A5, A6, c5, c6, by omega, by go_num, by rw [HA7.out], rfl, by rw [HA7.out]; exact hc5, hc6, HP6.out, HPERM2.out, H26.out, HXM.out, HYM.out, by rw [HA7.out]; exact HM6.out, HN26.out⟩
              case measure => simp [intOf]; omega
            · have d5 : ((j : Int) == 0) = false := beq_eq_false_iff_ne.2 (fun e => hj0 (by omega))
              have HA7 : Hid (andL (pre T (j + 1)) = andI (andL (pre T j)) (listI x)) := Lib.hid (by rw [HPRE.out, andL_snoc]; intro e; have h9 := HPRL.out; rw [e] at h9; simp at h9; omega)
              have hal7 := andL_len (pre T (j + 1)) 600 (HPL.out (j + 1))
              clear hj0
              go_wp2_with fail
              refine (r11And_any w6 A1 A5 (andL (pre T j)).length (listI x).length c1 c5 (andL (pre T j)) (listI x) HN16.out.1 HM6.out.1 (by omega)).mono ?_
              rintro e w7 hn7
              rw [← HA7.out] at hn7
              obtain ⟨A7, c7, G7, rfl, hc7, hp7, hm7, hg7, hb7, hG7⟩ := HP6.out.gain hS (fun y hy => by obtain ⟨z, hz, hyz⟩ := andL_mem hy; exact HPF.out (j + 1) z hz y hyz) (by unfold maxLen; omega) hn7
              have HP7 := Lib.hid hp7
              have HN17 := Lib.hid hm7
              have H27 := Lib.hid (H26.out.more hb7 hG7)
              have HN27 := Lib.hid (HN26.out.goes hg7)
              clear hn7 hp7 hm7 hg7 hb7 hG7 hal7
              go_wp2
              go_roundw
              case rel => exact ⟨j + 1, G7, X ++ [y1], Y ++ [y2], L ++ [y1] ++ [y2], A7, A6, c7, c6, by omega, by go_num, rfl, rfl, hc7, hc6, HP7.out, HPERM2.out, H27.out, HXM.out, HYM.out, HN17.out, HN27.out⟩
              case measure => simp [intOf]; omega
          · obtain rfl : j = k := by omega
            have hlz2 : ¬ ((j : Int) < (j : Int)) := by omega
            have hxy : ∀ x ∈ Y ++ X, x ∈ L := fun x hx => HPERM.out.mem_iff.2 (by
              rcases List.mem_append.1 hx with h1 | h1
              · exact List.mem_append_right _ h1
              · exact List.mem_append_left _ h1)
            have hPA := HP.out.perm (HPERM.out.trans List.perm_append_comm)
            have hRA := H2.out.ra
            have hRB := H2.out.rb
            have hAB := H2.out.ab
            have hown := hRA.own
            rw [HXL.out] at hown
            have hsrc := src_of_own hown
            have hr : ∀ ad, Ava = some ad → 0 < j → ad.block < wr.heap.size ∧ ¬ G ad.block ∧ ∀ x ∈ Y ++ X, ¬ x.F ad.block := fun ad e _ => ⟨(hown.lt ad.block (by rw [e]; rfl)).2, (hRA.far ad.block (by rw [e]; rfl)).1, fun x hx => (hRA.far ad.block (by rw [e]; rfl)).2 x (hxy x hx)⟩
            have hcva := rowCap_le hown
            have harg := (hPA.args hS hsrc hr).2
            have HAND := Lib.hid (hPA.and hS (c := cva) hsrc hcva (by omega) hr)
            rw [HX.out] at HAND
            have HARG := Lib.hid harg
            have HRB := Lib.hid hRB
            have HAB := Lib.hid hAB
            have HFA := Lib.hid hRA.far
            have HXY := Lib.hid hxy
            obtain ⟨la, hla⟩ : ∃ z, z = andL (pre T j) := ⟨_, rfl⟩
            obtain ⟨lo, hlo⟩ : ∃ z, z = orL (pre T j) := ⟨_, rfl⟩
            rw [← hla] at HAND HN1 hc1 han ⊢
            rw [← hlo] at HN2 hc2 hor ⊢
            have HLO := Lib.hid hlo
            clear hPA hRA hRB hAB hown hsrc hr harg hxy hla hlo
            go_wp2_with fail
            refine HAND.out.mono ?_
            rintro e w1 ⟨z, rfl, hz1, hp1, hk1, hf1⟩
            have hzb : ∀ g, (Value.slice Avb j cvb).ownBlock = some g → ¬ ((∃ x ∈ X, x.F g) ∨ ∃ ad, Ava = some ad ∧ 0 < j ∧ g = ad.block) := fun g e => by
              rintro (⟨x, hx, hxf⟩ | ⟨ad, e1, _, rfl⟩)
              · exact (HRB.out.far g e).2 x (HXY.out x (List.mem_append_right _ hx)) hxf
              · exact HAB.out ad.block (by rw [e1]; rfl) e
            have HRB1 : Hid (w1.ownsRow W.heap.size 28 1 (.slice Avb j cvb) j (Y.map ptr)) := Lib.hid (by
              have h1 := HRB.out.own
              rw [HYL.out] at h1
              exact ownsRow_block h1 fun g e => hk1.block g (h1.lt g e).2 (hzb g e))
            have HZB : Hid (∀ g, (Value.slice Avb j cvb).ownBlock = some g → ¬ z.F g) := Lib.hid fun g e hzf => by
              rcases hf1 g hzf with h1 | h1
              · exact hzb g e h1
              · have := (HRB.out.own.lt g e).2; omega
            have hg1 : Goes wr w1 G G := ⟨_, hk1, fun b hb => (HARG.out b hb).1, fun _ e => e⟩
            have HN11 := Lib.hid (HN1.out.goes hg1)
            have HN21 := Lib.hid (HN2.out.goes hg1)
            have HGA := Lib.hid (hp1.gather hS (by rw [hz1]; omega))
            rw [hz1] at HGA
            clear hz1 hp1 hk1 hf1 hzb hg1 HAND
            go_wp2_with fail
            refine HGA.out.mono ?_
            rintro e w2 ⟨A2', c2', G2, rfl, -, hp2, hm2, hg2, hk2, hgg2⟩
            have HP2 := Lib.hid hp2
            have HM2 := Lib.hid hm2
            have HN12 := Lib.hid (HN11.out.goes hg2)
            have HN22 := Lib.hid (HN21.out.goes hg2)
            have HRB2 := Lib.hid (ownsRow_block HRB1.out (w' := w2) fun g e => hk2.block g (HRB1.out.lt g e).2 (HZB.out g e))
            have HFB2 : Hid (∀ g, (Value.slice Avb j cvb).ownBlock = some g → ¬ G2 g ∧ ∀ x ∈ Y, ¬ x.F g) := Lib.hid fun g e => ⟨fun hgb => by
              rcases hgg2 g hgb with h1 | h1 | h1
              · exact (HRB.out.far g e).1 h1
              · exact HZB.out g e h1
              · have := (HRB1.out.lt g e).2; omega, fun x hx => (HRB.out.far g e).2 x (HXY.out x (List.mem_append_left _ hx))⟩
            clear hp2 hm2 hg2 hk2 hgg2 HGA
            go_wp2_with fail
            refine (r3Same_any w2 A2' A1 la.length la.length c2' c1 la la HM2.out.1 HN12.out.1).mono ?_
            rintro e w3 ⟨rfl, q3, hq3⟩
            rw [decide_eq_true (rfl : la = la)]
            have hb3 : Below w2.heap.size w2 w3 := by rw [hq3]; exact below_drewN (Below.refl _ w2) q3
            have hg3 := Goes.below hb3 (fun (b : Nat) (e : G2 b) => e)
            have HN23 := Lib.hid (HN22.out.goes hg3)
            have hp3 := HP2.out.later hS hb3
            have hown3 := ownsRow_block HRB2.out (w' := w3) fun g e => hb3.block g (HRB2.out.lt g e).2
            have hsrc3 := src_of_own hown3
            have hr3 : ∀ ad, Avb = some ad → 0 < j → ad.block < w3.heap.size ∧ ¬ G2 ad.block ∧ ∀ x ∈ [] ++ Y, ¬ x.F ad.block := fun ad e _ => ⟨(hown3.lt ad.block (by rw [e]; rfl)).2, (HFB2.out ad.block (by rw [e]; rfl)).1, fun x hx => (HFB2.out ad.block (by rw [e]; rfl)).2 x (by simpa using hx)⟩
            have HOR := Lib.hid (Pool.or hS (L := []) (X := Y) (by simpa using hp3) (c := cvb) hsrc3 (rowCap_le hown3) (by omega) hr3)
            have HARG3 := Lib.hid (Pool.args hS (L := []) (X := Y) (by simpa using hp3) hsrc3 hr3).2
            rw [HY.out, ← HLO.out] at HOR
            clear hq3 hb3 hg3 hp3 hown3 hsrc3 hr3
            go_wp2_with fail
            refine HOR.out.mono ?_
            rintro e w4 ⟨z4, rfl, hz4, hp4, hk4, -⟩
            have hg4 : Goes w3 w4 G2 G2 := ⟨_, hk4, fun b hb => (HARG3.out b hb).1, fun _ e => e⟩
            have HN24 := Lib.hid (HN23.out.goes hg4)
            have HGB := Lib.hid (hp4.gather hS (by rw [hz4]; omega))
            rw [hz4] at HGB
            clear hz4 hp4 hk4 hg4 HOR
            go_wp2_with fail
            refine HGB.out.mono ?_
            rintro e w5 ⟨A5, c5, G5, rfl, -, hp5, hm5, hg5, -⟩
            have HP5 := Lib.hid hp5
            have HM5 := Lib.hid hm5
            have HN25 := Lib.hid (HN24.out.goes hg5)
            clear hp5 hm5 hg5 HGB
            go_wp2_with fail
            refine (r3Same_any w5 A5 A2 lo.length lo.length c5 c2 lo lo HM5.out.1 HN25.out.1).mono ?_
            rintro e w6 ⟨rfl, q6, hq6⟩
            rw [decide_eq_true (rfl : lo = lo)]
            have HB6 : Hid (Below W.heap.size W w6) := Lib.hid (by rw [hq6]; exact below_drewN HP5.out.below q6)
            clear hq6
            go_wp2
            go_ret
            exact ⟨rfl, HB6.out⟩
end Go.Proofs.Ytkligdaademakaa
