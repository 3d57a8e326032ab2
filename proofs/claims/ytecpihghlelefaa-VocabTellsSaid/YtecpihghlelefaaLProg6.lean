/- The program's reader: Int, Bytes, Text, New. -/
import Derived.Test.YtecpihghlelefaaLProg5
import Derived.Shelf.Abstract
namespace Go.Proofs.Ytecpihghlelefaa
open Go.RowKit Go.Maps Go.WideMaps Go.Shelf

theorem calls_at {P : Program} {f : FuncId} {args : Array Value} {w : World} {Q : Ending → World → Prop} (h : ∀ W, W = w → Calls P f args W Q) : Calls P f args w Q := h w rfl
/-- What Int finds in these bytes: the number, how many bytes, the error. -/
def intRes (l : Nm) (most : Int) : Int × Nat × Int :=
  if (getL l).2.2 ≠ 0 then (0, 0, (getL l).2.2) else if most < 0 ∨ most < ((getL l).1 : Int) then (0, 0, 32) else ((getL l).1, (getL l).2.1, 0)

theorem rInt_eq {s : Rd} (hs : s.e = 0) (most : Int) : rInt s most = ((intRes (rRest s) most).1, if (intRes (rRest s) most).2.2 ≠ 0 then { s with e := (intRes (rRest s) most).2.2 } else { s with p := s.p + (intRes (rRest s) most).2.1 }) := by
  unfold rInt intRes
  rw [if_neg (by simpa using hs), rRest_ok hs]
  rcases getL (s.bs.drop s.p) with ⟨v, j, e⟩
  by_cases he : e = 0
  · subst he
    by_cases hm : most < 0 ∨ most < (v : Int)
    · simp [hm]
    · simp [hm]
  · simp [he]

set_option maxHeartbeats 4000000 in
set_option maxRecDepth 100000 in
theorem lInt1_any (w : World) (A : Option Addr) (n c : Nat) (l : Nm) (hl : BytesIn w A n l) (m f : Nat) (most : Int) (hm1 : -9223372036854775808 ≤ most) (hm2 : most ≤ 9223372036854775807) (hm : Blk w m 3 #[.int .i64 most]) (hf : Blk w f 3 #[.int .i64 0]) :
    Calls Try.prog 53 #[.slice A n c, at0 m, at0 f] w fun e w1 => e = .returned (.tuple #[.int .i64 ((intRes l most).2.1 : Nat), .int .i64 (intRes l most).2.2]) ∧ Blk w1 f 3 #[.int .i64 (intRes l most).1] ∧ Kept (fun i => i = f) w w1 ∧ ((intRes l most).2.2 = 0 → (intRes l most).2.1 ≤ n) := by
  have HL := Lib.hid hl
  have hln : l.length = n := by have := hl.2.1.len; simpa using this
  have HLN := Lib.hid hln
  have HF := Lib.hid hf
  have c0 := hm.cell 0
  have f0 := hf.cell 0
  have z0 := hf.frozen 0
  simp at c0 f0
  clear hl hln hm hf
  unfold at0
  obtain ⟨v, j, er, hg⟩ : ∃ v j e, getL l = (v, j, e) := ⟨_, _, _, rfl⟩
  have HG := Lib.hid hg
  obtain ⟨r, hr⟩ : ∃ r, r = intRes l most := ⟨_, rfl⟩
  rw [← hr]
  have hr2 : r = if er ≠ 0 then (0, 0, er) else if most < 0 ∨ most < (v : Int) then (0, 0, 32) else ((v : Int), j, 0) := by
    rw [hr]
    unfold intRes
    rw [hg]
  clear hr hg
  go_enter Try.func53, Try.ntmps53
  go_wp2_with fail
  refine (lGet_is w A n c l HL.out HG.out).mono ?_
  rintro e w1 ⟨rfl, hw⟩
  rw [hw]
  clear hw
  by_cases he : er = 0
  · subst he
    rw [if_neg (by simp)] at hr2
    by_cases ho : most < 0 ∨ most < (v : Int)
    · rw [if_pos ho] at hr2
      have hd := decide_eq_true ho
      clear ho
      go_wp2_with fail
      refine (lOver_any w v most hm1 hm2).mono ?_
      rintro e w1 ⟨rfl, hw⟩
      rw [hw, hd]
      clear hw hd
      go_wp2
      go_ret2
      rw [hr2]
      exact ⟨rfl, HF.out, Kept.refl _ _, fun _ => Nat.zero_le _⟩
    · rw [if_neg ho] at hr2
      have hd := decide_eq_false ho
      have hgi := getL_inv HG.out
      obtain ⟨q1, q2, q3, q4, q5⟩ := hgi
      rw [HLN.out] at q3
      have hvz : IntKind.i64.wrap (v : Int) = (v : Int) := IntWalk.i64_in _ (by omega)
      clear ho q4
      go_wp2_with fail
      refine (lOver_any w v most hm1 hm2).mono ?_
      rintro e w1 ⟨rfl, hw⟩
      rw [hw, hd]
      clear hw hd
      go_wp2
      go_ret2
      rw [hr2]
      exact ⟨rfl, by simpa using HF.out.set_ 0 (.int .i64 (v : Int)), (Kept.refl (fun i => i = f) w).setCell (.inl rfl) _, fun _ => q3⟩
  · rw [if_pos he] at hr2
    have d1 : (er != 0) = true := by simpa using he
    have HE := Lib.hid he
    clear he
    go_wp2
    go_ret2
    rw [hr2]
    exact ⟨rfl, HF.out, Kept.refl _ _, fun _ => Nat.zero_le _⟩

set_option maxHeartbeats 4000000 in
set_option maxRecDepth 100000 in
theorem lInt_any (w : World) (b : Nat) (g : Nat → Prop) (s : Rd) (hR : IsR w b g s) (most : Int) (hm1 : -9223372036854775808 ≤ most) (hm2 : most ≤ 9223372036854775807) :
    Calls Try.prog 43 #[at0 b, .int .i64 most] w fun e w' => e = .returned (.int .i64 (rInt s most).1) ∧ IsR w' b g (rInt s most).2 ∧ Kept (fun i => i = b) w w' := by
  have HR := Lib.hid hR
  have hbl : b < w.heap.size := by obtain ⟨A, c, h1, _⟩ := hR.at_; exact h1.lt
  clear hR
  unfold at0
  go_enter Try.func43, Try.ntmps43
  go_wp2_with fail
  refine calls_at ?_
  intro W hW
  have hWk : Kept (fun _ => False) w W := by rw [hW]; exact ((Kept.refl _ w).alloc _).alloc _
  have hb1 : Blk W w.heap.size 3 #[.int .i64 most] := by rw [hW]; exact (Blk.new _ _ _).alloc _
  have hb2 : Blk W (w.heap.size + 1) 3 #[.int .i64 0] := by rw [hW]; have := Blk.new (w.alloc (.cells #[.int .i64 most] 3)) 3 #[.int .i64 0]; simpa using this
  have hR2 := HR.out.kept hWk (fun h => h) (fun _ _ h => h)
  clear hW
  refine (lRead_any 53 #[at0 w.heap.size, at0 (w.heap.size + 1)] (enters_of Try.func53 (by kernel_rfl) rfl) W b g s hR2 (fun i => i = w.heap.size + 1) (by omega) (fun i hi e => by have := HR.out.lt i hi; omega) (fun k er w1 => s.e = 0 ∧ Blk w1 (w.heap.size + 1) 3 #[.int .i64 (intRes (rRest s) most).1] ∧ k = (intRes (rRest s) most).2.1 ∧ er = (intRes (rRest s) most).2.2) ?_).mono ?_
  · intro hs A c h1 h2
    refine (lInt1_any W A _ c (rRest s) h1 w.heap.size (w.heap.size + 1) most hm1 hm2 hb1 hb2).mono ?_
    rintro e w1 ⟨rfl, h3, h4, h5⟩
    exact ⟨_, _, rfl, ⟨hs, h3, rfl, rfl⟩, h4, h5⟩
  · rintro e w' ⟨rfl, h⟩
    have hres : ∃ r : Int × Rd, r = rInt s most ∧ Blk w' (w.heap.size + 1) 3 #[.int .i64 r.1] ∧ IsR w' b g r.2 ∧ Kept (fun i => i = b) w w' := by
      rcases h with ⟨hs, rfl⟩ | ⟨hs, k, er, w1, ⟨_, h1, rfl, rfl⟩, h2, h3, h4⟩
      · refine ⟨(0, s), ?_, hb2, hR2, hWk.mono (fun _ h => h.elim)⟩
        unfold rInt
        rw [if_pos hs]
      · refine ⟨((intRes (rRest s) most).1, if (intRes (rRest s) most).2.2 ≠ 0 then { s with e := (intRes (rRest s) most).2.2 } else { s with p := s.p + (intRes (rRest s) most).2.1 }), ?_, h1.kept h3 (by omega), h4, (Kept.trans (F := fun i => i = b) (hWk.mono (fun _ h => h.elim)) h2 ?_).trans h3 (fun i _ h => h)⟩
        · exact (rInt_eq hs most).symm
        · intro i hi h; omega
    obtain ⟨r, hr, hf, hR3, hk3⟩ := hres
    have HRR := Lib.hid hr
    have f0 := hf.cell 0
    simp at f0
    have HR3 := Lib.hid hR3
    have HK3 := Lib.hid hk3
    clear hr hf hR3 hk3 h hb1 hb2 hR2 hWk
    go_wp2
    go_ret
    rw [← HRR.out]
    exact ⟨rfl, HR3.out, HK3.out⟩
end Go.Proofs.Ytecpihghlelefaa
