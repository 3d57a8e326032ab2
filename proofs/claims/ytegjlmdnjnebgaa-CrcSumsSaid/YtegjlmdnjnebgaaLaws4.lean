/- CrcSums, walked. -/
import Derived.Test.YtegjlmdnjnebgaaLaws3
import Derived.Lib.MinMax
import Derived.Deep.RegionLaw
namespace Go.Proofs.Ytegjlmdnjnebgaa
open Go.RowKit Go.Maps Go.WideMaps

/-- Three rows of bytes. -/
structure Three (w : World) (A B C : Option Addr) (a b c : Nat) (la lb lc : Nm) (w' : World) : Prop where
  below : Below w.heap.size w w'
  fst : BytesIn w' A a la
  snd : BytesIn w' B b lb
  thd : BytesIn w' C c lc
theorem Three.then {w p q : World} {A B C : Option Addr} {a b c : Nat} {la lb lc : Nm} (h : Three w A B C a b c la lb lc p) (k : Below p.heap.size p q) : Three w A B C a b c la lb lc q :=
  ⟨below_then h.below k h.below.size, h.fst.below k, h.snd.below k, h.thd.below k⟩

structure Four (w : World) (A B C D : Option Addr) (a b c d : Nat) (la lb lc ld : Nm) (w' : World) : Prop where
  below : Below w.heap.size w w'
  fst : BytesIn w' A a la
  snd : BytesIn w' B b lb
  thd : BytesIn w' C c lc
  own : BytesIn w' D d ld
theorem Four.then {w p q : World} {A B C D : Option Addr} {a b c d : Nat} {la lb lc ld : Nm} (h : Four w A B C D a b c d la lb lc ld p) (k : Below p.heap.size p q) : Four w A B C D a b c d la lb lc ld q :=
  ⟨below_then h.below k h.below.size, h.fst.below k, h.snd.below k, h.thd.below k, h.own.below k⟩
theorem sum_is (w : World) (args : Array Value) (A : Option Addr) (n c : Nat) (l : Nm) (s : Nat) (hs : sumN l = s) (h : args = #[.slice A n c]) (hl : BytesIn w A n l) :
    Calls Try.prog 10 args w fun e w' => e = .returned (.int .u32 s) ∧ Below w.heap.size w w' := by
  rw [h, ← hs]; exact sum_any w A n c l hl
/-- Where an element lies. -/
theorem BytesIn.at {w : World} {A : Option Addr} {n : Nat} {l : Nm} (h : BytesIn w A n l) (k : Nat) (hk : k < n) : ∃ ad x, A = some ad ∧ l[k]? = some x ∧ w.cell? (ad.add k) = some (.int .u8 x.toNat) := by
  have hl : l.length = n := by have := h.2.1.len; simpa using this
  cases hA : A with
  | none => have := h.2.1.nil hA; omega
  | some ad =>
    subst hA
    have hx : l[k]? = some (l[k]'(by omega)) := List.getElem?_eq_getElem _
    exact ⟨ad, _, rfl, hx, cell_this h hx⟩

set_option maxHeartbeats 4000000 in
set_option maxRecDepth 100000 in
theorem crcSums_any (w : World) (A B C : Option Addr) (a b c ca cb cc : Nat) (la lb lc : Nm) (ha : BytesIn w A a la) (hb : BytesIn w B b lb) (hc : BytesIn w C c lc) (hca : a ≤ ca) (hcb : b ≤ cb) (hcc : c ≤ cc) :
    Calls Try.prog 6 #[.slice A a ca, .slice B b cb, .slice C c cc] w fun e w' => e = .returned (.bool true) ∧ Below w.heap.size w w' := by
  have a63 : a ≤ 9223372036854775807 := ha.1
  have b63 : b ≤ 9223372036854775807 := hb.1
  have c63 : c ≤ 9223372036854775807 := hc.1
  obtain ⟨N, hN⟩ : ∃ N, N = min a (min b c) := ⟨_, rfl⟩
  have hm1 : ∀ w ty, (Builtin.min_ #[3, 3] ty #[.int .i64 b, .int .i64 c]).run Try.prog w = .ok (.int .i64 ((min b c : Nat) : Int)) w := fun w ty => by
    rw [Lib.run_min_ints, show min (b : Int) (c : Int) = ((min b c : Nat) : Int) by omega]
  have hm2 : ∀ w ty, (Builtin.min_ #[3, 3] ty #[.int .i64 a, .int .i64 ((min b c : Nat) : Int)]).run Try.prog w = .ok (.int .i64 N) w := fun w ty => by
    rw [Lib.run_min_ints, show min (a : Int) ((min b c : Nat) : Int) = (N : Int) by omega]
  obtain ⟨M, hM⟩ : ∃ M, M = min b c := ⟨_, rfl⟩
  rw [← hM] at hm1 hm2
  have hna : N ≤ a := by omega
  have hnb : N ≤ b := by omega
  have hnc : N ≤ c := by omega
  have H := Lib.hid (Three.mk (Below.refl w.heap.size w) ha hb hc)
  clear ha hb hc hN hM
  go_enter Try.func6, Try.ntmps6
  go_wp2_with fail
  refine (head_any w).mono ?_
  rintro e w1 ⟨rfl, hb⟩
  have H1 := Lib.hid (H.out.then hb)
  clear hb
  by_cases hbig : 50000 < N
  · have hbz : (50000 : Int) < (N : Int) := by omega
    go_wp2
    go_ret
    exact ⟨rfl, H1.out.below⟩
  have hbz : ¬ (50000 : Int) < (N : Int) := by omega
  obtain ⟨i0, hi, hz0, hz1, hz2⟩ := info_parts byteInfo
  go_wp2
  clear hm1 hm2
  go_loopw [9, 10] (fun v i wr => ∃ k : Nat, k ≤ N ∧ i = .int .i64 k ∧ Below w.heap.size w wr ∧ wr.ownsRow w.heap.size 5 1 v k ((xor3 la lb lc k).map byteV)) (fun _ i _ => N - (intOf i).toNat)
  case atStart => exact ⟨0, by omega, rfl, H1.out.below, ⟨rfl, .inl ⟨rfl, rfl⟩⟩⟩
  case round =>
    clear H1
    obtain ⟨k, hk, rfl, hT, hO⟩ := hrel
    have HT := Lib.hid (H.out.then hT)
    have HB := Lib.hid hT
    have HO := Lib.hid hO
    clear hT hO
    rename_i v _ _
    rcases Nat.lt_or_ge k N with hlt | hge
    · have hlt' : (k : Int) < (N : Int) := by omega
      have hka : (k : Int) < (a : Int) := by omega
      have hkb : (k : Int) < (b : Int) := by omega
      have hkc : (k : Int) < (c : Int) := by omega
      obtain ⟨pa, xa, rfl, ha, ca⟩ := HT.out.fst.at k (by omega)
      obtain ⟨pb, xb, rfl, hb, cb⟩ := HT.out.snd.at k (by omega)
      obtain ⟨pc, xc, rfl, hc, cc⟩ := HT.out.thd.at k (by omega)
      have xab : bits .xor .u8 (xa.toNat : Int) (xb.toNat : Int) = ((xa ^^^ xb).toNat : Int) := by
        have h1 := xa.toNat_lt
        have h2 := xb.toNat_lt
        rw [u8_xor_nat _ _ (by omega) (by omega)]
        simp
      obtain ⟨z, hz⟩ : ∃ z, z = xa ^^^ xb := ⟨_, rfl⟩
      rw [← hz] at xab
      have xzc : bits .xor .u8 (z.toNat : Int) (xc.toNat : Int) = ((z ^^^ xc).toNat : Int) := by
        have h1 := z.toNat_lt
        have h2 := xc.toNat_lt
        rw [u8_xor_nat _ _ (by omega) (by omega)]
        simp
      obtain ⟨y, hy⟩ : ∃ y, y = z ^^^ xc := ⟨_, rfl⟩
      rw [← hy] at xzc
      have hnext : xor3 la lb lc (k + 1) = xor3 la lb lc k ++ [y] := by
        simp only [xor3, List.getD_eq_getElem?_getD, ha, hb, hc, Option.getD_some, hy, hz]
      have HN := Lib.hid hnext
      clear hnext hz hy ha hb hc
      obtain ⟨Av, cv, hv⟩ := own_slice HO.out
      subst hv
      have hown : (wr.drew.alloc (.cells #[.int .u8 y.toNat] 5)).ownsRow w.heap.size 5 1 (.slice Av k cv) k ((xor3 la lb lc k).map byteV) := World.ownsRow.alloc (w := wr.drew) HO.out _
      have hsrc : Src (wr.drew.alloc (.cells #[.int .u8 y.toNat] 5)) (some ⟨wr.heap.size, 0, none⟩) 1 ([y].map byteV) := (BytesIn.ofRow (n := 1) (l := [y]) (heap_alloc_new wr.drew _) rfl (by unfold maxLen; omega)).2.1
      go_wp2_with fail
      go_region_law (refine step_append_src _ rfl (.tmp 28) (.tmp 43) 22 rfl w.heap.size 5 i0 (.int .u8 0) 1 Try.underlying22 hi hz0 hz1 hz2 rfl (.slice Av k cv) k _ rfl hown (some ⟨wr.heap.size, 0, none⟩) 1 1 _ rfl hsrc (u8_one [y]) (by unfold maxLen; omega) (by omega) (by have := HT.out.below.size; simp; omega) ?_; intro v' w3 hown' hg2 hloc; obtain ⟨A3, cp3, hv3⟩ := own_slice hown'; rw [hv3] at hown' ⊢; have HG2 := Lib.hid hg2; have HO2 := Lib.hid hown'; clear hg2 hown' hloc hv3)
      all_goals
        go_wp2
        have hBn := HB.out.drew.alloc HB.out.size (.cells #[.int .u8 y.toNat] 5)
        have hB3 := hBn.grown HG2.out hBn.size (fun g hg => (HO.out.lt g hg).1)
        have HB3 := Lib.hid hB3
        clear hB3 hBn
        go_roundw
        case rel =>
          refine ⟨k + 1, by omega, by go_num, HB3.out, ?_⟩
          rw [HN.out, List.map_append]
          exact HO2.out
        case measure => simp [intOf]; omega
    · obtain rfl : k = N := by omega
      have hlz : ¬ ((k : Int) < (k : Int)) := by omega
      obtain ⟨Av, cv, hv⟩ := own_slice HO.out
      subst hv
      have I3 := Lib.hid (BytesIn.own HO.out (by unfold maxLen; omega))
      have s1 : ∀ w, (Instr.slice 22 (.slice A a ca) none (some (.int .i64 k)) none).run Try.prog w = .ok (.slice A k ca) w := fun w => slice_to w A a ca k (by omega)
      have s2 : ∀ w, (Instr.slice 22 (.slice B b cb) none (some (.int .i64 k)) none).run Try.prog w = .ok (.slice B k cb) w := fun w => slice_to w B b cb k (by omega)
      have s3 : ∀ w, (Instr.slice 22 (.slice C c cc) none (some (.int .i64 k)) none).run Try.prog w = .ok (.slice C k cc) w := fun w => slice_to w C c cc k (by omega)
      have hla : la.length = a := by have := H.out.fst.2.1.len; simpa using this
      have hlb : lb.length = b := by have := H.out.snd.2.1.len; simpa using this
      have hlc : lc.length = c := by have := H.out.thd.2.1.len; simpa using this
      have hsum := sums la lb lc k (by omega) (by omega) (by omega)
      obtain ⟨Sa, hSa⟩ : ∃ S, S = sumN (la.take k) := ⟨_, rfl⟩
      obtain ⟨Sb, hSb⟩ : ∃ S, S = sumN (lb.take k) := ⟨_, rfl⟩
      obtain ⟨Sc, hSc⟩ : ∃ S, S = sumN (lc.take k) := ⟨_, rfl⟩
      rw [← hSa, ← hSb, ← hSc] at hsum
      have a1 : Sa < 4294967296 := by rw [hSa]; exact moreN_lt (by decide) _
      have a2 : Sb < 4294967296 := by rw [hSb]; exact moreN_lt (by decide) _
      have a3 : Sc < 4294967296 := by rw [hSc]; exact moreN_lt (by decide) _
      have x1 : bits .xor .u32 (Sa : Int) (Sb : Int) = ((Sa ^^^ Sb : Nat) : Int) := u32_xor_nat _ _ a1 a2
      have x2 : bits .xor .u32 ((Sa ^^^ Sb : Nat) : Int) (Sc : Int) = ((Sa ^^^ Sb ^^^ Sc : Nat) : Int) := u32_xor_nat _ _ (xor_lt a1 a2) a3
      rw [← hsum] at x2
      have HSa := Lib.hid hSa.symm
      have HSb := Lib.hid hSb.symm
      have HSc := Lib.hid hSc.symm
      clear hSa hSb hSc hsum hla hlb hlc
      go_wp2_with fail
      have hq : Four w A B C Av a b c k la lb lc (xor3 la lb lc k) wr.drew := ⟨HB.out.drew, HT.out.fst.drew, HT.out.snd.drew, HT.out.thd.drew, I3.out.drew⟩
      go_region_held3 (fun w' => Four w A B C Av a b c k la lb lc (xor3 la lb lc k) w')
        (first | go_keep | exact hq | exact Four.then (by assumption) hb)
        (first
          | (go_at_call 10; refine (sum_eq _ _ Av k cv (xor3 la lb lc k) ?_ ?_).mono ?_; exact rfl; exact Four.own (by assumption); rintro e w' ⟨rfl, hb⟩)
          | (go_at_call 10; refine (sum_is _ _ A k ca _ Sa HSa.out ?_ ?_).mono ?_; exact rfl; exact (Four.fst (by assumption)).upto k hna; rintro e w' ⟨rfl, hb⟩)
          | (go_at_call 10; refine (sum_is _ _ B k cb _ Sb HSb.out ?_ ?_).mono ?_; exact rfl; exact (Four.snd (by assumption)).upto k hnb; rintro e w' ⟨rfl, hb⟩)
          | (go_at_call 10; refine (sum_is _ _ C k cc _ Sc HSc.out ?_ ?_).mono ?_; exact rfl; exact (Four.thd (by assumption)).upto k hnc; rintro e w' ⟨rfl, hb⟩))
      go_wp2
      go_ret
      exact ⟨rfl, Four.below (by assumption)⟩
end Go.Proofs.Ytegjlmdnjnebgaa
