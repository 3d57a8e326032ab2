/- CrcTurned and CrcOrder, walked. -/
import Derived.Test.YtegjlmdnjnebgaaLaws1
import Derived.Deep.RegionHeld3
import Derived.Deep.QuietTactic
import Derived.BigQuiet
namespace Go.Proofs.Ytegjlmdnjnebgaa
open Go.RowKit Go.Maps Go.WideMaps

set_option maxHeartbeats 4000000 in
set_option maxRecDepth 100000 in
theorem crcTurned_any (w : World) (A : Option Addr) (n c : Nat) (l : Nm) (hl : BytesIn w A n l) (t : Nat) (ht : t < 65536) (y : UInt8) :
    Calls Try.prog 5 #[.slice A n c, .int .u16 t, .int .u8 y.toNat] w fun e w' => e = .returned (.bool true) ∧ Below w.heap.size w w' := by
  have HL := Lib.hid hl
  clear hl
  have hn63 : n ≤ 9223372036854775807 := HL.out.1
  have hy := y.toNat_lt
  go_enter Try.func5, Try.ntmps5
  go_wp2_with fail
  refine (head_any w).mono ?_
  rintro e w1 ⟨rfl, hb⟩
  have B1 := Lib.hid hb
  have L1 := Lib.hid (HL.out.below hb)
  clear hb
  by_cases h0 : n = 0
  · have h0z : (n : Int) = 0 := by omega
    go_wp2
    go_ret
    exact ⟨rfl, B1.out⟩
  have h0z : ¬ (n : Int) = 0 := by omega
  have q0 : ((n : Int) == 0) = false := by simpa using h0
  by_cases hbig : 100000 < n
  · have hbz : (100000 : Int) < (n : Int) := by omega
    go_wp2
    go_ret
    exact ⟨rfl, B1.out⟩
  have hbz : ¬ (100000 : Int) < (n : Int) := by omega
  by_cases hy0 : y.toNat = 0
  · have hy0z : (y.toNat : Int) = 0 := by omega
    go_wp2
    go_ret
    exact ⟨rfl, B1.out⟩
  have hy0z : ¬ (y.toNat : Int) = 0 := by omega
  have qy : ((y.toNat : Int) == 0) = false := by simpa using hy0
  obtain ⟨i0, hi, hz0, hz1, hz2⟩ := info_parts byteInfo
  obtain ⟨K, hK⟩ : ∃ K, K = t % n := ⟨_, rfl⟩
  have hKn : K < n := by rw [hK]; exact Nat.mod_lt t (by omega)
  have hKn' : (K : Int) < (n : Int) := by omega
  have hKz : (t : Int) % (n : Int) = (K : Int) := by rw [hK]; simp
  clear hK
  have hln : l.length = n := by have := HL.out.2.1.len; simpa using this
  obtain ⟨x, hx⟩ : ∃ x, l[K]? = some x := ⟨l[K]'(by omega), List.getElem?_eq_getElem _⟩
  have HX : Hid ((l.map byteV)[K]? = some (.int .u8 x.toNat)) := Lib.hid (by rw [List.getElem?_map, hx]; rfl)
  have hxy : bits .xor .u8 (x.toNat : Int) (y.toNat : Int) = ((x ^^^ y).toNat : Int) := by
    have h1 := x.toNat_lt
    rw [u8_xor_nat _ _ (by omega) (by omega)]
    simp
  obtain ⟨z, hz⟩ : ∃ z, z = x ^^^ y := ⟨_, rfl⟩
  rw [← hz] at hxy
  have HZ := Lib.hid hz
  have HLX := Lib.hid hx
  have HLN := Lib.hid hln
  clear hz hx hln
  have L1' := Lib.hid (BytesIn.below L1.out ((Below.refl _ w1).alloc (Nat.le_refl _) (.cells #[] 5)))
  go_wp2_with (at_builtin; refine wpList_append_src _ rfl (.tmp 24) (.tmp 25) 22 rfl w1.heap.size 5 i0 (.int .u8 0) 1 Try.underlying22 hi hz0 hz1 hz2 rfl _ 0 [] rfl (World.ownsRow_made w1 #[] 0 (Nat.le_refl _) (Nat.zero_le _) rfl) A n c (l.map byteV) rfl L1'.out.2.1 (u8_one l) (by unfold maxLen; omega) (by omega) (by simp) ?_; intro v w2 hown hgrow hloc; obtain ⟨g, cap, rfl⟩ := Go.Joins.ownsRow_form hown (by omega); rw [Nat.zero_add, List.nil_append] at hown; have c1 := (hown.cellAt K (by omega)).trans HX.out; have z1 := hown.frozenAt K; have HO := Lib.hid hown; have HG : Hid ((w1.alloc (.cells #[] 5)).grownBy w2 (some w1.heap.size)) := Lib.hid hgrow; clear hown hgrow hloc)
  have hs1 := B1.out.size
  have hg1 : w1.heap.size ≤ g := (HO.out.lt g rfl).1
  have B3 : Below w.heap.size w (w2.setCell ⟨g, K, none⟩ (.int .u8 z.toNat)) :=
    ((B1.out.alloc hs1 _).grown HG.out (by simp; omega) (fun k e => by cases e; exact hs1)).setCell (by show _ ≤ g; omega) _
  have B3' : Below w1.heap.size w1 (w2.setCell ⟨g, K, none⟩ (.int .u8 z.toNat)) :=
    (((Below.refl _ w1).alloc (Nat.le_refl _) _).grown HG.out (by simp) (fun k e => by cases e; exact Nat.le_refl _)).setCell (by show _ ≤ g; omega) _
  have L3 := Lib.hid (L1.out.below B3')
  have I3 : Hid (BytesIn (w2.setCell ⟨g, K, none⟩ (.int .u8 z.toNat)) (some ⟨g, 0, none⟩) n (l.set K z)) := Lib.hid (by
    have h := (HO.out.stored K (.int .u8 z.toNat)).1
    refine BytesIn.own (base := w1.heap.size) (c := cap) ?_ (by unfold maxLen; omega)
    rw [List.map_set]
    exact h)
  have HB3 := Lib.hid B3
  clear B3 B3' hs1 hg1
  refine (sum_any _ (some ⟨g, 0, none⟩) n cap (l.set K z) I3.out).mono ?_
  rintro e w4 ⟨rfl, hb⟩
  have B4 := Lib.hid (below_then HB3.out hb HB3.out.size)
  have L4 := Lib.hid (L3.out.below hb)
  clear hb
  go_wp2_with fail
  refine (sum_any _ A n c l L4.out).mono ?_
  rintro e w5 ⟨rfl, hb⟩
  have B5 := Lib.hid (below_then B4.out hb B4.out.size)
  clear hb
  have hne : sumN (l.set K z) ≠ sumN l := turned l K x z HLX.out (fun e => hy0 (by
    have h1 := HZ.out
    rw [e] at h1
    have h2 : x.toNat = x.toNat ^^^ y.toNat := by rw [← UInt8.toNat_xor, ← h1]
    have h3 := xor_inj (a := x.toNat) (b := 0) (c := y.toNat) (by rw [Nat.xor_zero]; exact h2)
    omega))
  have hne2 : (((sumN (l.set K z) : Nat) : Int) != ((sumN l : Nat) : Int)) = true := by simpa using fun e => hne (by omega)
  go_wp2
  go_ret
  exact ⟨rfl, B5.out⟩

theorem cell_this {w : World} {ad : Addr} {n K : Nat} {l : Nm} {x : UInt8} (h : BytesIn w (some ad) n l) (hx : l[K]? = some x) : w.cell? (ad.add K) = some (.int .u8 x.toNat) :=
  h.2.1.cells ad rfl K (byteV x) (by rw [List.getElem?_map, hx]; rfl)
theorem cell_next {w : World} {ad : Addr} {n K : Nat} {l : Nm} {x : UInt8} (h : BytesIn w (some ad) n l) (hx : l[K + 1]? = some x) : w.cell? ⟨ad.block, ad.off + (K + 1), none⟩ = some (.int .u8 x.toNat) := by
  have := cell_this h hx
  simpa [Addr.add] using this
theorem own_cell {w : World} {base g n cap K : Nat} {l : Nm} {x : UInt8} (h : w.ownsRow base 5 1 (.slice (some ⟨g, 0, none⟩) n cap) n (l.map byteV)) (hx : l[K]? = some x) : w.cell? ⟨g, K, none⟩ = some (.int .u8 x.toNat) := by
  have hl : K < n * 1 := by
    have h1 := (List.getElem?_eq_some_iff.1 hx).1
    have h2 := h.1
    simp at h2
    omega
  rw [h.cellAt K hl, List.getElem?_map, hx]
  rfl
/-- Two rows of bytes, and two bytes of the first. -/
structure Both (w : World) (A : Option Addr) (n : Nat) (l : Nm) (B : Option Addr) (m : Nat) (l2 : Nm) (w' : World) : Prop where
  below : Below w.heap.size w w'
  fst : BytesIn w' A n l
  snd : BytesIn w' B m l2
theorem Both.then {w a b : World} {A B : Option Addr} {n m : Nat} {l l2 : Nm} (h : Both w A n l B m l2 a) (k : Below a.heap.size a b) : Both w A n l B m l2 b := ⟨below_then h.below k h.below.size, h.fst.below k, h.snd.below k⟩
theorem cell_later {a b : World} {p : Addr} {v : Value} (h : a.cell? p = some v) (k : Below a.heap.size a b) : b.cell? p = some v := (k.cell (World.block_lt_of_cell? a p h)).trans h

set_option maxHeartbeats 4000000 in
set_option maxRecDepth 100000 in
theorem crcOrder_any (w : World) (A : Option Addr) (n c : Nat) (l : Nm) (hl : BytesIn w A n l) (t : Nat) (ht : t < 65536) :
    Calls Try.prog 7 #[.slice A n c, .int .u16 t] w fun e w' => e = .returned (.bool true) ∧ Below w.heap.size w w' := by
  have HL := Lib.hid hl
  clear hl
  have hn63 : n ≤ 9223372036854775807 := HL.out.1
  go_enter Try.func7, Try.ntmps7
  go_wp2_with fail
  refine (head_any w).mono ?_
  rintro e w1 ⟨rfl, hb⟩
  have B1 := Lib.hid hb
  have L1 := Lib.hid (HL.out.below hb)
  clear hb
  by_cases h0 : n < 2
  · have h0z : (n : Int) < 2 := by omega
    go_wp2
    go_ret
    exact ⟨rfl, B1.out⟩
  have h0z : ¬ (n : Int) < 2 := by omega
  by_cases hbig : 100000 < n
  · have hbz : (100000 : Int) < (n : Int) := by omega
    go_wp2
    go_ret
    exact ⟨rfl, B1.out⟩
  have hbz : ¬ (100000 : Int) < (n : Int) := by omega
  obtain ⟨i0, hi, hz0, hz1, hz2⟩ := info_parts byteInfo
  obtain ⟨K, hK⟩ : ∃ K, K = t % (n - 1) := ⟨_, rfl⟩
  have hKn : K < n - 1 := by rw [hK]; exact Nat.mod_lt t (by omega)
  have hKn' : (K : Int) < (n : Int) - 1 := by omega
  have hK2 : (K : Int) + 1 < (n : Int) := by omega
  have hKz : (t : Int) % ((n : Int) - 1) = (K : Int) := by
    rw [hK, Int.natCast_emod]
    congr 1
    omega
  clear hK
  have hln : l.length = n := by have := HL.out.2.1.len; simpa using this
  obtain ⟨ad, hA⟩ : ∃ ad, A = some ad := by
    cases hA : A with
    | none => have := HL.out.2.1.nil hA; omega
    | some ad => exact ⟨ad, rfl⟩
  subst hA
  obtain ⟨x, hx⟩ : ∃ x, l[K]? = some x := ⟨l[K]'(by omega), List.getElem?_eq_getElem _⟩
  obtain ⟨y, hy⟩ : ∃ y, l[K + 1]? = some y := ⟨l[K + 1]'(by omega), List.getElem?_eq_getElem _⟩
  have L1' := Lib.hid (BytesIn.below L1.out ((Below.refl _ w1).alloc (Nat.le_refl _) (.cells #[] 5)))
  have HX := Lib.hid hx
  have HY := Lib.hid hy
  have HLN := Lib.hid hln
  clear hx hy hln
  go_wp2_with (at_builtin; refine wpList_append_src _ rfl (.tmp 24) (.tmp 25) 22 rfl w1.heap.size 5 i0 (.int .u8 0) 1 Try.underlying22 hi hz0 hz1 hz2 rfl _ 0 [] rfl (World.ownsRow_made w1 #[] 0 (Nat.le_refl _) (Nat.zero_le _) rfl) (some ad) n c (l.map byteV) rfl L1'.out.2.1 (u8_one l) (by unfold maxLen; omega) (by omega) (by simp) ?_; intro v w2 hown hgrow hloc; obtain ⟨g, cap, rfl⟩ := Go.Joins.ownsRow_form hown (by omega); rw [Nat.zero_add, List.nil_append] at hown; have hg1 : w1.heap.size ≤ g := (hown.lt g rfl).1; have B2' : Below w1.heap.size w1 w2 := ((Below.refl _ w1).alloc (Nat.le_refl _) _).grown (row := some w1.heap.size) hgrow (by simp) (fun k e => by cases e; exact Nat.le_refl _); have L2 := Lib.hid (L1.out.below B2'); have HB2 := Lib.hid B2'; have HO := Lib.hid hown; have e1 := cell_next L2.out HY.out; have f1 := own_cell HO.out HX.out; have f2 := hown.frozenAt K; have S3 := (hown.stored K (byteV y)).1; have B3' : Below w1.heap.size w1 (w2.setCell ⟨g, K, none⟩ (.int .u8 y.toNat)) := HB2.out.setCell (by show _ ≤ g; omega) _; have L3 := Lib.hid (L1.out.below B3'); have e0 := cell_this L3.out HX.out; have g1 := own_cell HO.out HY.out; have g2 := HO.out.frozenAt (K + 1); clear hown hgrow hloc B2' B3'; have HS3 := Lib.hid S3; clear S3)
  have hs1 := B1.out.size
  obtain ⟨W4, hW4⟩ : ∃ W4, W4 = (w2.setCell ⟨g, K, none⟩ (.int .u8 y.toNat)).setCell ⟨g, K + 1, none⟩ (.int .u8 x.toNat) := ⟨_, rfl⟩
  obtain ⟨l2, hl2⟩ : ∃ l2, l2 = (l.set K y).set (K + 1) x := ⟨_, rfl⟩
  have B4 : Below w1.heap.size w1 W4 := by rw [hW4]; exact (HB2.out.setCell (by show _ ≤ g; omega) _).setCell (by show _ ≤ g; omega) _
  have I4 : BytesIn W4 (some ⟨g, 0, none⟩) n l2 := by
    have h := (HS3.out.stored (K + 1) (.int .u8 x.toNat)).1
    rw [hW4]
    refine BytesIn.own (base := w1.heap.size) (c := cap) ?_ (by unfold maxLen; omega)
    rw [hl2, List.map_set, List.map_set]
    exact h
  have hq : Both w (some ad) n l (some ⟨g, 0, none⟩) n l2 W4.drew := ⟨(below_then B1.out B4 hs1).drew, (L1.out.below B4).drew, I4.drew⟩
  have k0 : W4.drew.cell? (ad.add K) = some (.int .u8 x.toNat) := cell_this hq.fst HX.out
  have k1 : W4.drew.cell? ⟨ad.block, ad.off + (K + 1), none⟩ = some (.int .u8 y.toNat) := cell_next hq.fst HY.out
  have hord : (((sumN l2 : Nat) : Int) == ((sumN l : Nat) : Int)) = ((x.toNat : Int) == (y.toNat : Int)) := by
    rw [hl2]
    have h := order l K x y HX.out HY.out
    by_cases hxy : x = y
    · have h2 := h.2 hxy
      rw [h2, hxy]
      simp
    · have h2 : ¬ sumN ((l.set K y).set (K + 1) x) = sumN l := fun e => hxy (h.1 e)
      have h3 : ¬ x.toNat = y.toNat := fun e => hxy (UInt8.toNat_inj.1 e)
      have a1 : (((sumN ((l.set K y).set (K + 1) x) : Nat) : Int) == ((sumN l : Nat) : Int)) = false := by simpa using fun e => h2 (by omega)
      have a2 : ((x.toNat : Int) == (y.toNat : Int)) = false := by simpa using fun e => h3 (by omega)
      rw [a1, a2]
  have HORD := Lib.hid hord
  have HB4 := Lib.hid B4
  have HW4 := Lib.hid hW4
  clear hord B4 I4 e0 e1 f1 f2 g1 g2 hl2
  refine wp_at ?_
  intro WW hWW
  rw [← hW4] at hWW
  clear hW4
  subst hWW
  clear L2 HB2 HO L3 HS3 HW4 HB4
  have p0 : (0 : Int) ≤ (K : Int) := by omega
  have p1 : (K : Int) < (n : Int) := by omega
  have p2 : IntKind.i64.wrap ((K : Int) + 1) = (K : Int) + 1 := IntWalk.i64_in _ (by omega)
  have p3 : (0 : Int) ≤ (K : Int) + 1 := by omega
  have p4 : ((K : Int) + 1).toNat = K + 1 := by omega
  go_region_held3 (fun w' => Both w (some ad) n l (some ⟨g, 0, none⟩) n l2 w' ∧ w'.cell? (ad.add K) = some (.int .u8 x.toNat) ∧ w'.cell? ⟨ad.block, ad.off + (K + 1), none⟩ = some (.int .u8 y.toNat))
    (first | go_keep | exact ⟨hq, k0, k1⟩ | exact ⟨Both.then hq hb, cell_later k0 hb, cell_later k1 hb⟩ | exact ⟨Both.then (And.left (by assumption)) hb, cell_later (And.left (And.right (by assumption))) hb, cell_later (And.right (And.right (by assumption))) hb⟩)
    (first
      | (go_at_call 10; refine (sum_eq _ _ (some ⟨g, 0, none⟩) n cap l2 ?_ ?_).mono ?_; exact rfl; (first | exact hq.snd | exact Both.snd (And.left (by assumption))); rintro e w' ⟨rfl, hb⟩)
      | (go_at_call 10; refine (sum_eq _ _ (some ad) n c l ?_ ?_).mono ?_; exact rfl; (first | exact hq.fst | exact Both.fst (And.left (by assumption))); rintro e w' ⟨rfl, hb⟩))
  go_wp2
  go_ret
  refine ⟨?_, Both.below (And.left (by assumption))⟩
  show Ending.returned (.bool ((((sumN l2 : Nat) : Int) == ((sumN l : Nat) : Int)) == ((x.toNat : Int) == (y.toNat : Int)))) = _
  rw [HORD.out]
  simp
end Go.Proofs.Ytegjlmdnjnebgaa
