/- The landed sets: Or. -/
import Derived.Test.YtkligdaademakaaSoNew
import Derived.Deep.RegionHeld3
namespace Go.Proofs.Ytkligdaademakaa
open Go.RowKit Go.Maps Go.WideMaps Go.Shelf
set_option linter.unusedSimpArgs false

set_option maxHeartbeats 8000000 in
set_option maxRecDepth 100000 in
theorem orFew_any {Leaf Q : MvP} (hL : MovesOk Leaf) (hQ : MovesOk Q) (w : World) (F : Nat → Prop) (A : Option Addr) (n c : Nat) (X : List SV) (hk : Kids Q w X) (hF : ∀ x ∈ X, ∀ b, x.F b → F b) (hlt : ∀ b, F b → b < w.heap.size) (hs : Src w A n (X.map fun x => Value.pointer x.p)) (hA : ∀ ad, A = some ad → 0 < n → ad.block < w.heap.size) (hn : n < 4) :
    Calls Try.prog 22 #[.slice A n c] w (SetMade (MvAll Leaf Q) w F (orL (X.map SV.l))) := by
  have hlen : X.length = n := by have := hs.len; simpa using this
  obtain ⟨w1, hw1⟩ : ∃ z, z = w.alloc (.cells #[.slice A n c] 60) := ⟨_, rfl⟩
  have hb1 : Below w.heap.size w w1 := by rw [hw1]; exact (Below.refl _ w).alloc (Nat.le_refl _) _
  have hz1 : w1.heap.size = w.heap.size + 1 := by rw [hw1]; simp
  have HW1 := Lib.hid hw1
  have hcl := cloneSets_any w1 A n c _ (hs.keep (w' := w1) fun ad e h0 => hb1.block _ (hA ad e h0)) (ptrs_one X) (fun ad e h0 => by have := hA ad e h0; omega) (by omega)
  have h1 : Blk w1 w.heap.size 60 #[.slice A n c] := by rw [hw1]; exact Blk.new _ _ _
  have HCL := Lib.hid hcl
  have HK := Lib.hid hk
  have HF := Lib.hid hF
  have HLT := Lib.hid hlt
  have HBK := Lib.hid h1
  have HLEN := Lib.hid hlen
  clear hcl hk hF hlt hs hA hw1 h1 hlen
  go_enter Try.func22, Try.ntmps22
  go_wp2_with fail
  rw [← HW1.out]
  refine HCL.out.mono ?_
  rintro e w2 ⟨v, rfl, ho, hb2⟩
  rw [← HLEN.out] at ho
  obtain ⟨w3, hw3⟩ : ∃ z, z = w2.setCell ⟨w.heap.size, 0, none⟩ v := ⟨_, rfl⟩
  obtain ⟨⟨A', c', rfl, hrow⟩, hb3⟩ := row_new hQ HK.out HF.out HLT.out (by rw [HLEN.out]; omega) _ HW1.out ho hb2 hw3
  have hbk2 := HBK.out.below hb2 (by omega)
  have y0 := hbk2.cell 0
  have x0 := hbk2.frozen 0
  simp only [List.getElem?_toArray, List.getElem?_cons_zero] at y0
  have hup : Up (orL (X.map SV.l)) := up_or fun l hl => by
    obtain ⟨x, hx, rfl⟩ := List.mem_map.1 hl
    exact (HK.out.each x hx).up
  have hbeg := seBegin_any (hL.all hQ) (.inr (.inr (.inr (.inr (.inl ⟨_, _, _, X, rfl, hrow, rfl⟩))))) hup
  unfold at0 at hbeg
  have HBEG := Lib.hid (hbeg.mono fun e w' h => made_out hb3 h)
  have HW3 := Lib.hid hw3
  clear ho hb2 hb3 hrow hbk2 hup hbeg hw3
  go_wp2_with fail
  rw [← HW3.out]
  refine HBEG.out.mono ?_
  rintro e w4 ⟨b, F', rfl, h1, h2, h3⟩
  have HP := Lib.hid (And.intro h1 (And.intro h2 h3))
  clear h1 h2 h3
  go_wp2
  go_ret
  exact ⟨b, F', rfl, HP.out.1, HP.out.2.1, HP.out.2.2⟩

set_option maxRecDepth 100000 in
theorem sets_size (w : World) : (sizeOf (Try.prog.elem 60)).run Try.prog w = .ok 1 w := by
  obtain ⟨i0, hi, hz0, hz1, hz2⟩ := info_parts setsInfo
  rw [show Try.prog.elem 60 = 28 by kernel_rfl, run_sizeOf w hi]
  unfold Program.cellsOf
  rw [hi]
  simp [hz1]
set_option maxRecDepth 100000 in
theorem sets_from (w : World) (A : Option Addr) (n c p : Nat) (hp : p ≤ n) : (Instr.slice 60 (.slice A n c) (some (.int .i64 p)) none none).run Try.prog w = .ok (.slice (cutAddr A p c) (n - p) (c - p)) w := by
  rw [run_slice_l (P := Try.prog) (w := w) 60 A n c Try.underlying60 .i64 p (by omega) (by omega), sets_size]
  simp [Result.andThen, sliced, cutAddr]
set_option maxRecDepth 100000 in
theorem sets_to (w : World) (A : Option Addr) (n c p : Nat) (hp : p ≤ c) : (Instr.slice 60 (.slice A n c) none (some (.int .i64 p)) none).run Try.prog w = .ok (.slice A p c) w := by
  rw [run_slice_h (P := Try.prog) (w := w) 60 A n c Try.underlying60 .i64 p (by omega) (by omega), sets_size]
  by_cases h : c = 0
  · subst h
    obtain rfl : p = 0 := by omega
    cases A <;> simp [Result.andThen, sliced, Addr.add]
  · cases A <;> simp [Result.andThen, sliced, Addr.add]
theorem orL_halves {X : List (List Int)} (h : ∀ l ∈ X, Up l) (k : Nat) : orL [orL (X.take k), orL (X.drop k)] = orL X := by
  have h1 : Up (orL (X.take k)) := up_or fun l hl => h l (List.mem_of_mem_take hl)
  have h2 : Up (orL (X.drop k)) := up_or fun l hl => h l (List.mem_of_mem_drop hl)
  have h3 : ∀ l ∈ [orL (X.take k), orL (X.drop k)], Up l := fun l hl => by
    simp only [List.mem_cons, List.not_mem_nil, or_false] at hl
    rcases hl with rfl | rfl
    · exact h1
    · exact h2
  refine (up_or h3).ext (up_or h) fun z => ?_
  rw [mem_orL h3, mem_orL h]
  simp only [List.mem_cons, List.not_mem_nil, or_false, exists_eq_or_imp, exists_eq_left]
  rw [mem_orL (fun l hl => h l (List.mem_of_mem_take hl)), mem_orL (fun l hl => h l (List.mem_of_mem_drop hl))]
  constructor
  · rintro (⟨l, hl, hz⟩ | ⟨l, hl, hz⟩)
    · exact ⟨l, List.mem_of_mem_take hl, hz⟩
    · exact ⟨l, List.mem_of_mem_drop hl, hz⟩
  · rintro ⟨l, hl, hz⟩
    rw [← List.take_append_drop k X] at hl
    rcases List.mem_append.1 hl with hl | hl
    · exact .inl ⟨l, hl, hz⟩
    · exact .inr ⟨l, hl, hz⟩
/-- Or of n sets. -/
def OrOk (Leaf : MvP) (n : Nat) : Prop := ∀ (w : World) (F : Nat → Prop) (A : Option Addr) (c : Nat) (X : List SV) (k : Nat), Kids (QD Leaf k) w X → (∀ x ∈ X, ∀ b, x.F b → F b) → (∀ b, F b → b < w.heap.size) → Src w A n (X.map fun x => Value.pointer x.p) → (∀ ad, A = some ad → 0 < n → ad.block < w.heap.size ∧ ∀ x ∈ X, ¬ x.F ad.block) → n ≤ c → n ≤ 1000000 →
  Calls Try.prog 22 #[.slice A n c] w fun e w' => ∃ j, SetMade (QD Leaf j) w F (orL (X.map SV.l)) e w'
theorem Kids.take {Q : MvP} {w : World} {X : List SV} (h : Kids Q w X) (k : Nat) : Kids Q w (X.take k) := ⟨fun x hx => h.each x (List.mem_of_mem_take hx), h.apart.sublist (List.take_sublist k X)⟩
theorem Kids.drop {Q : MvP} {w : World} {X : List SV} (h : Kids Q w X) (k : Nat) : Kids Q w (X.drop k) := ⟨fun x hx => h.each x (List.mem_of_mem_drop hx), h.apart.sublist (List.drop_sublist k X)⟩
theorem Kids.halves {Q : MvP} {w : World} {X : List SV} (h : Kids Q w X) (k : Nat) : ∀ b, kidsF (X.take k) b → ¬ kidsF (X.drop k) b := by
  have hp := h.apart
  rw [← List.take_append_drop k X, List.pairwise_append] at hp
  rintro b ⟨x, hx, hf⟩ ⟨y, hy, hg⟩
  exact hp.2.2 x hx y hy b hf hg
theorem Src.take' {w : World} {A : Option Addr} {n : Nat} {xs : List Value} (h : Src w A n xs) {k : Nat} (hk : k ≤ n) (hA : A ≠ none) : Src w A k (xs.take k) := by
  have hl := h.len
  refine ⟨by rw [List.length_take]; omega, fun ad e j u hu => ?_, fun e => absurd e hA⟩
  rw [List.getElem?_take] at hu
  split at hu
  · exact h.cells ad e j u hu
  · cases hu
theorem Src.drop' {w : World} {ad : Addr} {n c : Nat} {xs : List Value} (h : Src w (some ad) n xs) {k : Nat} (hk : k < n) (hc : n ≤ c) : Src w (cutAddr (some ad) k c) (n - k) (xs.drop k) ∧ ∀ ad', cutAddr (some ad) k c = some ad' → ad'.block = ad.block := by
  have hl := h.len
  have hck : ¬ c = k := by omega
  unfold cutAddr
  rw [if_neg hck]
  refine ⟨⟨by rw [List.length_drop]; omega, fun a e j u hu => ?_, fun e => by simp at e⟩, fun a e => ?_⟩
  · simp at e
    subst e
    rw [Go.Deep.add_add]
    refine h.cells ad rfl (k + j) u ?_
    rw [List.getElem?_drop] at hu
    exact hu
  · simp at e
    subst e
    unfold Addr.add; split <;> rfl
set_option maxHeartbeats 8000000 in
set_option maxRecDepth 100000 in
theorem orMany_any {Leaf : MvP} (hL : MovesOk Leaf) {n : Nat} (hn : 4 ≤ n) (ih : ∀ m, m < n → OrOk Leaf m) : OrOk Leaf n := by
  intro w F A c X k hk hF hlt hs hA hc hn2
  have hlen : X.length = n := by have := hs.len; simpa using this
  have hups : ∀ l ∈ X.map SV.l, Up l := fun l hl => by
    obtain ⟨x, hx, rfl⟩ := List.mem_map.1 hl
    exact (hk.each x hx).up
  obtain ⟨ad, rfl⟩ : ∃ ad, A = some ad := by
    cases hA' : A with
    | none => rw [hA'] at hs; have := hs.nil rfl; omega
    | some ad => exact ⟨ad, rfl⟩
  obtain ⟨h, hh⟩ : ∃ h : Nat, h = n / 2 := ⟨_, rfl⟩
  have hhi : (n : Int) / 2 = (h : Int) := by omega
  have hh2 : 1 < h ∧ h < n := by omega
  have hhd : decide ((1 : Int) < (h : Int)) = true := decide_eq_true (by omega)
  clear hh
  obtain ⟨w1, hw1⟩ : ∃ z, z = w.alloc (.cells #[.slice (some ad) n c] 60) := ⟨_, rfl⟩
  have hb1 : Below w.heap.size w w1 := by rw [hw1]; exact (Below.refl _ w).alloc (Nat.le_refl _) _
  have hz1 : w1.heap.size = w.heap.size + 1 := by rw [hw1]; simp
  have h1 : Blk w1 w.heap.size 60 #[.slice (some ad) n c] := by rw [hw1]; exact Blk.new _ _ _
  obtain ⟨hadl, hadn⟩ := hA ad rfl (by omega)
  have hs1 : Src w1 (some ad) n (X.map fun x => Value.pointer x.p) := hs.keep fun ad' e h0 => hb1.block _ (hA ad' e h0).1
  have hk1 : Kids (QD Leaf k) w1 X := hk.keep (qd_ok hL k) (fun x hx b hb => hb1.block b (hlt b (hF x hx b hb))) hb1.size
  have q1 := fun w => sets_to w (some ad) n c h (by omega)
  have q2 := fun w => sets_from w (some ad) n c h (by omega)
  obtain ⟨A2, hA2⟩ : ∃ z, z = cutAddr (some ad) h c := ⟨_, rfl⟩
  obtain ⟨n2, hn3⟩ : ∃ z, z = n - h := ⟨_, rfl⟩
  obtain ⟨c2, hc2⟩ : ∃ z, z = c - h := ⟨_, rfl⟩
  have hdr := hs1.drop' hh2.2 hc
  rw [← hA2, ← hn3, ← hc2] at q2
  rw [← hA2, ← hn3] at hdr
  have hn4 : n2 < n ∧ n2 ≤ c2 := by omega
  -- the first half
  have hor1 := ih h hh2.2 w1.drew (kidsF (X.take h)) (some ad) c (X.take h) k ((hk1.take h).keep (qd_ok hL k) (fun _ _ _ _ => rfl) (Nat.le_refl _)) (fun x hx b hb => ⟨x, hx, hb⟩) (fun b ⟨x, hx, hf⟩ => by have := hlt b (hF x (List.mem_of_mem_take hx) b hf); show b < w1.heap.size; omega) (by rw [List.map_take]; exact (hs1.take' (by omega) (by simp)).keep fun _ _ _ => rfl) (fun a e _ => by cases e; exact ⟨by show _ < w1.heap.size; omega, fun x hx => hadn x (List.mem_of_mem_take hx)⟩) (by omega) (by omega)
  have hkl : ∀ b, kidsF X b → b < w.heap.size := fun b ⟨x, hx, hf⟩ => hlt b (hF x hx b hf)
  have HK1 := Lib.hid hk1
  have HKL := Lib.hid hkl
  have HF := Lib.hid hF
  have HS1 := Lib.hid hs1
  have HADN := Lib.hid hadn
  have HDR := Lib.hid hdr
  have HB1 := Lib.hid hb1
  have HBK := Lib.hid h1
  have HW1 := Lib.hid hw1
  have HOR1 := Lib.hid hor1
  have HUPS := Lib.hid hups
  have HLEN := Lib.hid hlen
  have HIH := Lib.hid ih
  have HN3 := Lib.hid hn3
  have y0 := h1.cell 0
  simp only [List.getElem?_toArray, List.getElem?_cons_zero] at y0
  have HY0 := Lib.hid y0
  rw [HW1.out] at y0
  clear hk hF hlt hs hA hadn hw1 hb1 h1 hs1 hk1 hdr hor1 hkl hups hlen ih hA2 hn3 hc2
  go_enter Try.func22, Try.ntmps22
  go_wp2_with fail
  rw [← HW1.out]
  go_wp2_with fail
  refine wp_region_held_drew (S := fun w' => w'.cell? ⟨w.heap.size, 0, none⟩ = some (.slice (some ad) n c)) (by kernel_rfl) ?_ (fun hHeld => ?_)
  · exact HY0.out
  refine wpAnyH_take (i := 0) (oi := ?oim0) (v := ?vm0) ?him0 (by kernel_rfl) (by kernel_rfl) (by kernel_rfl) ?hQm0 (Or.inl ⟨?hwm0, ?hym0⟩) (by assumption) ?restm0
  case him0 => (first | (simp only [List.getElem?_toArray, List.getElem?_cons_zero, List.getElem?_cons_succ]; rfl) | rfl)
  case hQm0 => exact fun _ _ _ h => h
  case hwm0 => rfl
  case hym0 => ((intro w hSw; go_simp); first | done | with_reducible rfl)
  try simp only [Act.put, List.setIfInBounds_toArray, List.set_cons_zero, List.set_cons_succ]
  refine wpAnyH_take (i := 1) (oi := ?oim1) (v := ?vm1) ?him1 (by kernel_rfl) (by kernel_rfl) (by kernel_rfl) ?hQm1 (Or.inl ⟨?hwm1, ?hym1⟩) (by assumption) ?restm1
  case him1 => (first | (simp only [List.getElem?_toArray, List.getElem?_cons_zero, List.getElem?_cons_succ]; rfl) | rfl)
  case hQm1 => exact fun _ _ _ h => h
  case hwm1 => rfl
  case hym1 => ((intro w hSw; go_simp); first | done | with_reducible rfl)
  try simp only [Act.put, List.setIfInBounds_toArray, List.set_cons_zero, List.set_cons_succ]
  refine wpAnyH_take (i := 2) (oi := ?oim2) (v := ?vm2) ?him2 (by kernel_rfl) (by kernel_rfl) (by kernel_rfl) ?hQm2 (Or.inl ⟨?hwm2, ?hym2⟩) (by assumption) ?restm2
  case him2 => (first | (simp only [List.getElem?_toArray, List.getElem?_cons_zero, List.getElem?_cons_succ]; rfl) | rfl)
  case hQm2 => exact fun _ _ _ h => h
  case hwm2 => rfl
  case hym2 => ((intro w hSw; go_simp); first | done | with_reducible rfl)
  try simp only [Act.put, List.setIfInBounds_toArray, List.set_cons_zero, List.set_cons_succ]
  refine wpAnyH_take (i := 4) (oi := ?oim4) (v := ?vm4) ?him4 (by kernel_rfl) (by kernel_rfl) (by kernel_rfl) ?hQm4 (Or.inl ⟨?hwm4, ?hym4⟩) (by assumption) ?restm4
  case him4 => (first | (simp only [List.getElem?_toArray, List.getElem?_cons_zero, List.getElem?_cons_succ]; rfl) | rfl)
  case hQm4 => exact fun _ _ _ h => h
  case hwm4 => rfl
  case hym4 => ((intro w hSw; go_simp); first | done | with_reducible rfl)
  try simp only [Act.put, List.setIfInBounds_toArray, List.set_cons_zero, List.set_cons_succ]
  refine wpAnyH_take (i := 5) (oi := ?oim5) (v := ?vm5) ?him5 (by kernel_rfl) (by kernel_rfl) (by kernel_rfl) ?hQm5 (Or.inl ⟨?hwm5, ?hym5⟩) (by assumption) ?restm5
  case him5 => (first | (simp only [List.getElem?_toArray, List.getElem?_cons_zero, List.getElem?_cons_succ]; rfl) | rfl)
  case hQm5 => exact fun _ _ _ h => h
  case hwm5 => rfl
  case hym5 => ((intro w hSw; go_simp); first | done | with_reducible rfl)
  try simp only [Act.put, List.setIfInBounds_toArray, List.set_cons_zero, List.set_cons_succ]
  refine wpAnyH_take (i := 6) (oi := ?oim6) (v := ?vm6) ?him6 (by kernel_rfl) (by kernel_rfl) (by kernel_rfl) ?hQm6 (Or.inl ⟨?hwm6, ?hym6⟩) (by assumption) ?restm6
  case him6 => (first | (simp only [List.getElem?_toArray, List.getElem?_cons_zero, List.getElem?_cons_succ]; rfl) | rfl)
  case hQm6 => exact fun _ _ _ h => h
  case hwm6 => rfl
  case hym6 => ((intro w hSw; go_simp); first | done | with_reducible rfl)
  try simp only [Act.put, List.setIfInBounds_toArray, List.set_cons_zero, List.set_cons_succ]
  refine wpAnyH_ready (rs := [3]) (by kernel_rfl) (by simp) ?_
  refine AllReadyH.cons (o := ?oa) ?hca ?sta AllReadyH.nil
  case hca => (simp only [List.getElem?_toArray, List.getElem?_cons_zero, List.getElem?_cons_succ]; rfl)
  intro K hK
  go_simp
  refine HOR1.out.mono ?_
  rintro e w2 ⟨j1, b1, F1, rfl, g1, g2, g3⟩
  have hzd : w1.drew.heap.size = w1.heap.size := rfl
  have hz2 := g2.size
  rw [hzd] at hz2
  have hh1 := HK1.out.halves h
  have hd2 : ∀ b, kidsF (X.drop h) b → b < w.heap.size ∧ ¬ kidsF (X.take h) b := fun b hb => ⟨HKL.out b (by obtain ⟨x, hx, hf⟩ := hb; exact ⟨x, List.mem_of_mem_drop hx, hf⟩), fun e => hh1 b e hb⟩
  have hd1 : ∀ b, kidsF (X.take h) b → b < w.heap.size := fun b hb => HKL.out b (by obtain ⟨x, hx, hf⟩ := hb; exact ⟨x, List.mem_of_mem_take hx, hf⟩)
  have hbk2 : Blk w2 w.heap.size 60 #[.slice (some ad) n c] := (HBK.out.drew).kept g2 (fun e => by have := hd1 _ e; omega)
  have y2 := hbk2.cell 0
  simp only [List.getElem?_toArray, List.getElem?_cons_zero] at y2
  have hsrc2 : Src w2 A2 n2 ((X.map fun x => Value.pointer x.p).drop h) := HDR.out.1.keep fun a e _ => by
    rw [HDR.out.2 a e]
    exact g2.block _ (by rw [hzd]; omega) (fun ⟨x, hx, hf⟩ => HADN.out x (List.mem_of_mem_take hx) hf)
  have hkd2 : Kids (QD Leaf k) w2 (X.drop h) := (HK1.out.drop h).keep (qd_ok hL k) (fun x hx b hb => g2.block b (by rw [hzd]; have := (hd2 b ⟨x, hx, hb⟩).1; omega) (hd2 b ⟨x, hx, hb⟩).2) (by omega)
  have HOR2 := Lib.hid (HIH.out n2 hn4.1 w2 (kidsF (X.drop h)) A2 c2 (X.drop h) k hkd2 (fun x hx b hb => ⟨x, hx, hb⟩) (fun b hb => by have := (hd2 b hb).1; omega) (by rw [List.map_drop]; exact hsrc2) (fun a e _ => by rw [HDR.out.2 a e]; exact ⟨by omega, fun x hx => HADN.out x (List.mem_of_mem_drop hx)⟩) hn4.2 (by omega))
  have G1 := Lib.hid g1
  have G2 := Lib.hid g2
  have G3 := Lib.hid g3
  have HD1 := Lib.hid hd1
  have HD2 := Lib.hid hd2
  have HBK2 := Lib.hid hbk2
  clear g1 g2 g3 hd1 hd2 hh1 hbk2 hsrc2 hkd2
  go_wp2_with fail
  refine hK.out _ _ y2 (fun _ => ?_)
  clear hK K
  refine wpAnyH_ready (rs := [7]) (by kernel_rfl) (by simp) ?_
  refine AllReadyH.cons (o := ?ob) ?hcb ?stb AllReadyH.nil
  case hcb => (simp only [List.getElem?_toArray, List.getElem?_cons_zero, List.getElem?_cons_succ]; rfl)
  intro K hK
  go_simp
  refine HOR2.out.mono ?_
  rintro e w3 ⟨j2, b2, F2, rfl, g4, g5, g6⟩
  have hz3 := g5.size
  have hbk3 : Blk w3 w.heap.size 60 #[.slice (some ad) n c] := HBK2.out.kept g5 (fun e => by have := (HD2.out _ e).1; omega)
  have y3 := hbk3.cell 0
  simp only [List.getElem?_toArray, List.getElem?_cons_zero] at y3
  have HBK3 := Lib.hid hbk3
  have G4 := Lib.hid g4
  have G5 := Lib.hid g5
  have G6 := Lib.hid g6
  clear g4 g5 g6 hbk3
  go_wp2_with fail
  refine hK.out _ _ y3 (fun _ => ?_)
  clear hK K
  have hs4 : w3.heap.size < (w3.alloc (.cells #[.pointer (some ⟨b1, 0, none⟩), .pointer (some ⟨b2, 0, none⟩)] 28)).heap.size := by simp
  obtain ⟨w4, hw4⟩ : ∃ z, z = w3.alloc (.cells #[.pointer (some ⟨b1, 0, none⟩), .pointer (some ⟨b2, 0, none⟩)] 28) := ⟨_, rfl⟩
  have hb4 : Below w3.heap.size w3 w4 := by rw [hw4]; exact (Below.refl _ w3).alloc (Nat.le_refl _) _
  have y4 := below_cells hb4 y3
  have hf1 : ∀ b, F1 b → (kidsF (X.take h) b ∨ w1.heap.size ≤ b) ∧ b < w2.heap.size := fun b hb => ⟨G3.out b hb, G1.out.lt b hb⟩
  have hf2 : ∀ b, F2 b → (kidsF (X.drop h) b ∨ w2.heap.size ≤ b) ∧ b < w3.heap.size := fun b hb => ⟨G6.out b hb, G4.out.lt b hb⟩
  have hy1 : SetLv (QD Leaf (max j1 j2)) w4 F1 (some ⟨b1, 0, none⟩) (orL ((X.take h).map SV.l)) := by
    refine SetLv.mono (fun h => qd_le (by omega) h) (G1.out.keep (qd_ok hL j1) (fun b hb => ?_) (by have := hb4.size; omega))
    have h1 := hf1 b hb
    rw [hb4.block b (by omega)]
    exact G5.out.block b h1.2 (fun e => by
      have h3 := HD2.out b e
      rcases h1.1 with h2 | h2
      · exact h3.2 h2
      · omega)
  have hy2 : SetLv (QD Leaf (max j1 j2)) w4 F2 (some ⟨b2, 0, none⟩) (orL ((X.drop h).map SV.l)) :=
    SetLv.mono (fun h => qd_le (by omega) h) (G4.out.keep (qd_ok hL j2) (fun b hb => hb4.block b (hf2 b hb).2) hb4.size)
  have hkids : Kids (QD Leaf (max j1 j2)) w4 [⟨some ⟨b1, 0, none⟩, orL ((X.take h).map SV.l), F1⟩, ⟨some ⟨b2, 0, none⟩, orL ((X.drop h).map SV.l), F2⟩] := by
    refine ⟨fun x hx => ?_, ?_⟩
    · simp only [List.mem_cons, List.not_mem_nil, or_false] at hx
      rcases hx with rfl | rfl
      · exact hy1
      · exact hy2
    · simp only [List.pairwise_cons, List.mem_singleton, forall_eq, List.not_mem_nil, false_implies, implies_true, List.Pairwise.nil, and_true]
      intro b q1 q2
      have h1 := hf1 b q1
      have h2 := hf2 b q2
      rcases h2.1 with h3 | h3
      · have h4 := HD2.out b h3
        rcases h1.1 with h5 | h5
        · exact h4.2 h5
        · omega
      · omega
  have hsrc4 : Src w4 (some ⟨w3.heap.size, 0, none⟩) 2 [.pointer (some ⟨b1, 0, none⟩), .pointer (some ⟨b2, 0, none⟩)] := by
    refine ⟨rfl, fun a e j u hu => ?_, fun e => by cases e⟩
    cases e
    have e2 : (⟨w3.heap.size, 0, none⟩ : Addr).add j = ⟨w3.heap.size, j, none⟩ := by
      unfold Addr.add
      split
      · rename_i h0; rw [h0]
      · simp
    rw [e2, hw4, cell_of_row _ w3.heap.size j _ 28 (0, 0) (heap_alloc_new w3 _)]
    simpa using hu
  have hor3 := HIH.out 2 (by omega) w4 (fun i => F1 i ∨ F2 i) (some ⟨w3.heap.size, 0, none⟩) 2 _ (max j1 j2) hkids (fun x hx b hb => by
    simp only [List.mem_cons, List.not_mem_nil, or_false] at hx
    rcases hx with rfl | rfl
    · exact .inl hb
    · exact .inr hb) (fun b hb => by
    have := hb4.size
    rcases hb with hb | hb
    · have := hf1 b hb; omega
    · have := hf2 b hb; omega) hsrc4 (fun a e _ => by
    cases e
    refine ⟨by rw [hw4]; exact hs4, fun x hx hf => ?_⟩
    simp only [List.mem_cons, List.not_mem_nil, or_false] at hx
    rcases hx with rfl | rfl
    · have := hf1 _ hf; simp only at this; omega
    · have := hf2 _ hf; simp only at this; omega) (Nat.le_refl _) (by omega)
  have hor := orL_halves HUPS.out h
  rw [← List.map_take, ← List.map_drop] at hor
  simp only [List.map_cons, List.map_nil, hor] at hor3
  have hfin : ∀ e w', (∃ j, SetMade (QD Leaf j) w4 (fun i => F1 i ∨ F2 i) (orL (X.map SV.l)) e w') → (∃ j, SetMade (QD Leaf j) w F (orL (X.map SV.l)) e w') ∧ w'.cell? ⟨w.heap.size, 0, none⟩ = some (.slice (some ad) n c) := by
    rintro e w' ⟨j, b, F', r1, r2, r3, r4⟩
    have hk2 : Kept F w w2 := (Kept.below HB1.out).trans (F' := kidsF (X.take h)) (G2.out.1 |> fun _ => ⟨G2.out.os, G2.out.tape, G2.out.output, G2.out.size, G2.out.block⟩) (fun i _ ⟨x, hx, hf⟩ => HF.out x (List.mem_of_mem_take hx) i hf)
    have hk3 : Kept F w w3 := hk2.trans G5.out (fun i _ ⟨x, hx, hf⟩ => HF.out x (List.mem_of_mem_drop hx) i hf)
    have hk4 : Kept F w w4 := hk3.trans (F' := fun _ => False) (Kept.below hb4) (fun _ _ e => e.elim)
    have hz4 := hb4.size
    have hsub : ∀ i, F1 i ∨ F2 i → F i ∨ w.heap.size ≤ i := fun i hi => by
      rcases hi with hi | hi
      · rcases (hf1 i hi).1 with ⟨x, hx, hf⟩ | h2
        · exact .inl (HF.out x (List.mem_of_mem_take hx) i hf)
        · right; omega
      · rcases (hf2 i hi).1 with ⟨x, hx, hf⟩ | h2
        · exact .inl (HF.out x (List.mem_of_mem_drop hx) i hf)
        · right; omega
    have hcell : w'.cell? ⟨w.heap.size, 0, none⟩ = some (.slice (some ad) n c) := by
      rw [World.cell?_of_block (r3.block w.heap.size (by omega) (fun e => by
        rcases e with e | e
        · rcases (hf1 _ e).1 with h2 | h2
          · have := HD1.out _ h2; omega
          · omega
        · rcases (hf2 _ e).1 with h2 | h2
          · have := (HD2.out _ h2).1; omega
          · omega))]
      exact y4
    refine ⟨⟨j, b, F', r1, r2, hk4.trans r3 (fun i hi h2 => (hsub i h2).elim id (fun h3 => by omega)), fun i hi => ?_⟩, ?_⟩
    · rcases r4 i hi with h2 | h2
      · exact hsub i h2
      · right; omega
    · exact hcell
  have HOR3 := Lib.hid (hor3.mono hfin)
  have HW4 := Lib.hid hw4
  clear hs4 hb4 hf1 hf2 hy1 hy2 hkids hsrc4 hor3 hor hfin
  rw [hw4] at y4
  clear hw4
  refine wpAnyH_ready (rs := [8]) (by kernel_rfl) (by simp) ?_
  refine AllReadyH.cons (o := ?oc) ?hcc ?stc AllReadyH.nil
  case hcc => (simp only [List.getElem?_toArray, List.getElem?_cons_zero, List.getElem?_cons_succ]; rfl)
  intro K hK
  go_simp
  refine hK.out _ _ y4 (fun _ => ?_)
  clear hK K
  try simp only [Act.put, List.setIfInBounds_toArray, List.set_cons_zero, List.set_cons_succ]
  rw [← HW4.out]
  rw [← HW4.out] at y4
  refine wpAnyH_ready (rs := [9]) (by kernel_rfl) (by simp) ?_
  refine AllReadyH.cons (o := ?od) ?hcd ?std AllReadyH.nil
  case hcd => (simp only [List.getElem?_toArray, List.getElem?_cons_zero, List.getElem?_cons_succ]; rfl)
  intro K hK
  go_simp
  refine HOR3.out.mono ?_
  rintro e w5 ⟨⟨j, b, F', rfl, r1, r2, r3⟩, y5⟩
  have R1 := Lib.hid (And.intro r1 (And.intro r2 r3))
  clear r1 r2 r3
  go_wp2_with fail
  refine hK.out _ _ y5 (fun _ => ?_)
  clear hK K
  refine wpAnyH_take (i := 10) (oi := ?oiz10) (v := ?vz10) ?hiz10 (by kernel_rfl) (by kernel_rfl) (by kernel_rfl) ?hQz10 (Or.inl ⟨?hwz10, ?hyz10⟩) (by assumption) ?restz10
  case hiz10 => (first | (simp only [List.getElem?_toArray, List.getElem?_cons_zero, List.getElem?_cons_succ]; rfl) | rfl)
  case hQz10 => exact fun _ _ _ h => h
  case hwz10 => rfl
  case hyz10 => ((intro w hSw; go_simp); first | done | with_reducible rfl)
  try simp only [Act.put, List.setIfInBounds_toArray, List.set_cons_zero, List.set_cons_succ]
  refine wpAnyH_done (by kernel_rfl) ?_ _
  go_wp2
  go_ret
  exact ⟨j, b, F', rfl, R1.out.1, R1.out.2.1, R1.out.2.2⟩
theorem or_ok {Leaf : MvP} (hL : MovesOk Leaf) (n : Nat) : OrOk Leaf n := by
  induction n using Nat.strongRecOn with
  | ind n ih =>
    rcases Nat.lt_or_ge n 4 with h | h
    · intro w F A c X k hk hF hlt hs hA hc hn2
      exact (orFew_any hL (qd_ok hL k) w F A n c X hk hF hlt hs (fun ad e h0 => (hA ad e h0).1) h).mono fun e w' h => ⟨k + 1, h⟩
    · exact orMany_any hL h ih
end Go.Proofs.Ytkligdaademakaa
