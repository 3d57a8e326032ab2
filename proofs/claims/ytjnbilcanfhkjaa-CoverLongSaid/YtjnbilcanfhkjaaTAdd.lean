/- The contract of the trie's add. -/
import Derived.Test.YtjnbilcanfhkjaaTPut
namespace Go.Proofs.Ytjnbilcanfhkjaa
open Go.RowKit Go.Maps Go.WideMaps Go.Shelf

attribute [local go_sem] Oper.semAt_some

section
variable {w : World} {b : Nat} {T : Lay} {X : Key → List Int} {M : Nat}
theorem box_reads (hF : Forest w b T X M) (A : Option Addr) (n c : Nat) (x : Nm) (hB : ∀ w', Kept T.foot w w' → BytesIn w' A n x) :
    ∀ w', Kept T.foot (w.alloc (.cells #[.slice A n c] 23)) w' → ReadsBox w.heap.size A n c x w' := fun w' hk => by
  have hno : ¬ T.foot w.heap.size := fun ⟨r, e⟩ => by have := hF.lt _ r e; omega
  exact ⟨((Blk.new w 23 #[.slice A n c]).kept hk hno).cell 0, hB w' (((Kept.refl T.foot w).alloc _).trans hk fun _ _ h => h)⟩
theorem put_post {R : Ending → World → Prop} {P : Lay → World → Prop} {W1 : World} {h : Kept T.foot w W1} (hs : w.heap.size ≤ W1.heap.size) (hP : ∀ e w', ((∃ v, e = .returned v) ∧ ∃ T', P T' w' ∧ Ext w T T' ∧ Kept T.foot w w') → R e w') :
    ∀ e w', ((∃ v, e = .returned v) ∧ ∃ T', P T' w' ∧ Ext W1 T T' ∧ Kept T.foot W1 w') → R e w' := fun e w' ⟨hv, T', h1, h2, h3⟩ =>
  hP e w' ⟨hv, T', h1, ⟨h2.lab, fun j r q => (h2.new j r q).imp id fun q => by omega, h2.ad⟩, h.trans h3 fun _ _ h => h⟩
theorem keep_on {w2 w3 : World} {T2 : Lay} (h : Kept T.foot w w2) (he : Ext w T T2) (k : Kept T2.foot w2 w3) : Kept T.foot w w3 := h.trans k fun i hi hf => foot_back he i hi hf
theorem put_all (hF : Forest w b T X M) {t g o : Nat} (hk : T.ad (t, []) = some (g, o)) (A : Option Addr) (n c : Nat) (x : Nm) (hn : x.length = n) (h16 : n ≤ 16) (hB : ∀ w', Kept T.foot w w' → BytesIn w' A n x) (i : Nat) (hM : M ≤ 9000000) :
    Calls Try.prog 38 #[.pointer (some ⟨g, o, none⟩), .func (.func 49) #[] #[.pointer (some ⟨w.heap.size, 0, none⟩)], .int .i64 i] (w.alloc (.cells #[.slice A n c] 23))
      fun e w' => (∃ v, e = .returned v) ∧ ∃ T', Forest w' b T' (putUp X t x i n) (M + 33) ∧ Ext w T T' ∧ Kept T.foot w w' := by
  have h := put_any (hF.alloc (.cells #[.slice A n c] 23)) hk (all_ok w.heap.size A n c x hn (by omega)) (box_reads hF A n c x hB) i (by omega) hM
  rw [hn] at h
  exact h.mono (put_post (P := fun T' w' => Forest w' b T' (putUp X t x i n) (M + (2 * n + 1))) (h := (Kept.refl _ _).alloc _) (by simp) fun e w' ⟨hv, T', h1, h2, h3⟩ => ⟨hv, T', h1.more (by omega), h2, h3⟩)
theorem put_back (hF : Forest w b T X M) {t g o : Nat} (hk : T.ad (t, []) = some (g, o)) (A : Option Addr) (n c : Nat) (x : Nm) (hn : x.length = n) (h16 : n ≤ 16) (hB : ∀ w', Kept T.foot w w' → BytesIn w' A n x) (i : Nat) (hM : M ≤ 9000000) :
    Calls Try.prog 38 #[.pointer (some ⟨g, o, none⟩), .func (.func 50) #[] #[.pointer (some ⟨w.heap.size, 0, none⟩)], .int .i64 i] (w.alloc (.cells #[.slice A n c] 23))
      fun e w' => (∃ v, e = .returned v) ∧ ∃ T', Forest w' b T' (putUp X t x.reverse i n) (M + 33) ∧ Ext w T T' ∧ Kept T.foot w w' := by
  have h := put_any (hF.alloc (.cells #[.slice A n c] 23)) hk (back_ok w.heap.size A n c x hn (by omega)) (box_reads hF A n c x hB) i (by rw [List.length_reverse]; omega) hM
  rw [List.length_reverse, hn] at h
  exact h.mono (put_post (P := fun T' w' => Forest w' b T' (putUp X t x.reverse i n) (M + (2 * n + 1))) (h := (Kept.refl _ _).alloc _) (by simp) fun e w' ⟨hv, T', h1, h2, h3⟩ => ⟨hv, T', h1.more (by omega), h2, h3⟩)
end

/-- What the tree of what stands within holds when the first rests of a text are in it. -/
def insideUp (X : Key → List Int) (x : Nm) (i : Int) : Nat → Key → List Int
  | 0 => X
  | f + 1 => putUp (insideUp X x i f) 2 (x.drop f) i (x.length - f)
def addX (X : Key → List Int) (x : Nm) (i : Int) : Key → List Int := insideUp (putUp (putUp X 0 x i x.length) 1 x.reverse i x.length) x i (x.length + 1)

set_option maxHeartbeats 4000000 in
set_option maxRecDepth 100000 in
theorem tadd_any {w : World} {b : Nat} {T : Lay} {X : Key → List Int} {M : Nat} (hF : Forest w b T X M) (A : Option Addr) (n c : Nat) (x : Nm) (hn : x.length = n) (h16 : n ≤ 16) (hc : n ≤ c) (hB : ∀ w', Kept T.foot w w' → BytesIn w' A n x) (i : Nat) (hM : M ≤ 8000000) :
    Calls Try.prog 31 #[.pointer (some ⟨b, 0, none⟩), .slice A n c, .int .i64 i] w fun e w' => (∃ v, e = .returned v) ∧ ∃ T', Forest w' b T' (addX X x i) (M + 700) ∧ Ext w T T' ∧ Kept T.foot w w' := by
  have hmx : Try.prog.follows .mixedOrders = true := by kernel_rfl
  have hall := all_make (w.drewN 1) A n c
  have hput := put_all (hF.drewN 1) (hF.root 0 (by omega)) A n c x hn h16 (fun w' hk => hB w' (((Kept.refl _ w).drewN 1).trans hk fun _ _ h => h)) i (by omega)
  have HALL := Lib.hid hall
  have HPUT := Lib.hid hput
  have HF := Lib.hid hF
  have HB := Lib.hid hB
  have HN := Lib.hid hn
  clear hall hput hF hB hn
  refine (callsIn_wide (n := 5)).1 ?_
  refine callsIn_of_wp Try.func31 rfl trivial ?_ rfl
  simp only [Try.ntmps31, List.size_toArray, List.length_cons, List.length_nil, Nat.reduceAdd, Nat.reduceSub, Array.replicate_succ, Array.replicate_zero, List.push_toArray, List.append_toArray, List.nil_append, List.cons_append]
  gi_wp2
  gi_region_with_o (first | (refine ⟨trivial, ?_⟩; gi_at_call 39; refine (callsIn_wide.2 HALL.out).mono ?_; rintro e w2 ⟨rfl, rfl⟩) | (refine ⟨trivial, ?_⟩; gi_at_call 38; refine (callsIn_wide.2 HPUT.out).mono ?_; rintro e w2 ⟨⟨v, rfl⟩, T2, r1, r2, r3⟩))
  obtain ⟨r2', r3'⟩ : Ext w T T2 ∧ Kept T.foot w w2 := ⟨⟨r2.lab, r2.new, r2.ad⟩, ((Kept.refl _ w).drewN 1).trans r3 fun _ _ h => h⟩
  have hall2 := back_make (w2.drewN 1) A n c
  have hput2 := put_back (r1.drewN 1) (r1.root 1 (by omega)) A n c x HN.out h16 (fun w' hk => HB.out w' (keep_on r3' r2' (((Kept.refl _ w2).drewN 1).trans hk fun _ _ h => h))) i (by omega)
  have HALL2 := Lib.hid hall2
  have HPUT2 := Lib.hid hput2
  have R2 := Lib.hid r2'
  have R3 := Lib.hid r3'
  clear hall2 hput2 r1 r2 r3 r2' r3'
  gi_wp2
  gi_region_with_o (first | (refine ⟨trivial, ?_⟩; gi_at_call 40; refine (callsIn_wide.2 HALL2.out).mono ?_; rintro e w3 ⟨rfl, rfl⟩) | (refine ⟨trivial, ?_⟩; gi_at_call 38; refine (callsIn_wide.2 HPUT2.out).mono ?_; rintro e w3 ⟨⟨v3, rfl⟩, T3, r1, r2, r3⟩))
  obtain ⟨r2', r3'⟩ : Ext w T T3 ∧ Kept T.foot w w3 := ⟨R2.out.trans ⟨r2.lab, r2.new, r2.ad⟩ R3.out.size, keep_on R3.out R2.out (((Kept.refl _ w2).drewN 1).trans r3 fun _ _ h => h)⟩
  have R1 := Lib.hid r1
  have R2' := Lib.hid r2'
  have R3' := Lib.hid r3'
  clear r1 r2 r3 r2' r3'
  have hw1 : IntKind.i64.wrap ((n : Int) + 1) = ((n + 1 : Nat) : Int) := by rw [IntWalk.i64_in _ (by omega)]; rfl
  gi_wp2
  obtain ⟨X2, hX2⟩ : ∃ X2, X2 = putUp (putUp X 0 x i n) 1 x.reverse i n := ⟨_, rfl⟩
  gi_loopw [24] (fun f wr => ∃ (k : Nat) (T4 : Lay), k ≤ n + 1 ∧ f = .int .i64 k ∧ Forest wr b T4 (insideUp X2 x i k) (M + 66 + 33 * k) ∧ Ext w T T4 ∧ Kept T.foot w wr) (fun f _ => n + 1 - (intOf f).toNat)
  case atStart => exact ⟨0, T3, by omega, rfl, by rw [hX2]; exact R1.out, R2'.out, R3'.out⟩
  case round =>
    obtain ⟨k, T4, hk, rfl, f1, f2, f3⟩ := hrel
    by_cases hlt : k < n + 1
    · have hlt' : (k : Int) < ((n + 1 : Nat) : Int) := by omega
      have hkn : k ≤ n := by omega
      have hcut := fun w => slice_from w A n c k hkn
      have hxl : (x.drop k).length = n - k := by rw [List.length_drop, HN.out]
      have hall4 := all_make (wr.drewN 1) (cutAddr A k c) (n - k) (c - k)
      have hput4 := put_all (f1.drewN 1) (f1.root 2 (by omega)) (cutAddr A k c) (n - k) (c - k) (x.drop k) hxl (by omega) (fun w' hq => by
        have := (HB.out w' (keep_on f3 f2 (((Kept.refl _ wr).drewN 1).trans hq fun _ _ h => h))).sub hc k n hkn (Nat.le_refl _)
        rwa [List.take_of_length_le (by rw [HN.out]; exact Nat.le_refl _)] at this) i (by omega)
      have HALL4 := Lib.hid hall4
      have HPUT4 := Lib.hid hput4
      have F2 := Lib.hid f2
      have F3 := Lib.hid f3
      clear hall4 hput4 f1 f2 f3 hX2 hxl
      gi_wp2
      gi_region_with_o (first | (refine ⟨trivial, ?_⟩; gi_at_call 39; refine (callsIn_wide.2 HALL4.out).mono ?_; rintro e w5 ⟨rfl, rfl⟩) | (refine ⟨trivial, ?_⟩; gi_at_call 38; refine (callsIn_wide.2 HPUT4.out).mono ?_; rintro e w5 ⟨⟨v5, rfl⟩, T5, r1, r2, r3⟩))
      have hs5 : IntKind.i64.wrap ((k : Int) + 1) = (k : Int) + 1 := IntWalk.i64_in _ (by omega)
      gi_wp2
      go_roundw
      case rel =>
        refine ⟨k + 1, T5, by omega, by go_num, ?_, F2.out.trans ⟨r2.lab, r2.new, r2.ad⟩ F3.out.size, keep_on F3.out F2.out (((Kept.refl _ wr).drewN 1).trans r3 fun _ _ h => h)⟩
        unfold insideUp
        rw [HN.out]
        exact r1.more (by omega)
      case measure => simp [intOf]; omega
    · obtain rfl : k = n + 1 := by omega
      have hlz : ¬ (((n + 1 : Nat) : Int) < ((n + 1 : Nat) : Int)) := by omega
      gi_wp2
      go_end0
      refine ⟨⟨_, rfl⟩, T4, ?_, f2, f3⟩
      rw [hX2, ← HN.out] at f1
      exact f1.more (by have := HN.out; omega)
end Go.Proofs.Ytjnbilcanfhkjaa
