/- The contract of the document's Of: where a text may begin. -/
import Derived.Test.YtjnbilcanfhkjaaOMath
namespace Go.Proofs.Ytjnbilcanfhkjaa
open Go.RowKit Go.Maps Go.WideMaps

theorem alignInfo : (Try.prog.info? 26).map (fun i => (i.zero, i.size, i.bytes)) = some (some (.agg #[.int .i64 0, .int .i64 0]), 2, 16) := by kernel_rfl
/-- A row of aligns has come back. -/
def PairsOut (w : World) (l : List (Int × Int)) (e : Ending) (w' : World) : Prop := ∃ v, e = .returned v ∧ w'.ownsRow w.heap.size 26 2 v l.length (l.flatMap twoCells) ∧ Below w.heap.size w w'

set_option maxHeartbeats 4000000 in
set_option maxRecDepth 100000 in
theorem r8Of_any (w : World) (A B : Option Addr) (n m ca cb : Nat) (L : List Nm) (s : Nm) (ha : RowsSee w A n L) (hb : BytesIn w B m s) (hcb : m ≤ cb) (hF : totUp L n ≤ 1048576) :
    Calls Try.prog 14 #[.slice A n ca, .slice B m cb] w (PairsOut w (alUp L s n)) := by
  obtain ⟨i0, hi, hz0, hz1, hz2⟩ := info_parts alignInfo
  have HA := Lib.hid ha
  have HBS := Lib.hid hb
  have HLA := Lib.hid ha.len
  have HF := Lib.hid hF
  have hn63 : n ≤ 9223372036854775807 := ha.fit
  clear ha hb hF
  go_enter Try.func14, Try.ntmps14
  go_wp2
  go_loopw [5, 6] (fun v i wr => ∃ k : Nat, k ≤ n ∧ i = .int .i64 k ∧ wr.ownsRow w.heap.size 26 2 v (alUp L s k).length ((alUp L s k).flatMap twoCells) ∧ Below w.heap.size w wr) (fun _ i _ => n - (intOf i).toNat)
  case atStart => exact ⟨0, by omega, rfl, ⟨rfl, .inl ⟨rfl, rfl⟩⟩, Below.refl _ _⟩
  case round =>
    obtain ⟨k, hk, rfl, hO, hB⟩ := hrel
    have HO := Lib.hid hO
    have HB := Lib.hid hB
    clear hO hB
    rcases Nat.lt_or_ge k n with hlt | hge
    · have hlt' : (k : Int) < (n : Int) := by omega
      have p0 : (0 : Int) ≤ (k : Int) := by omega
      obtain ⟨x, hx⟩ : ∃ x, L[k]? = some x := ⟨_, List.getElem?_eq_getElem (by rw [HLA.out]; exact hlt)⟩
      have hgd : L.getD k [] = x := by rw [List.getD_eq_getElem?_getD, hx]; rfl
      have hup : alUp L s (k + 1) = alUp L s k ++ alT x s k x.length := by simp only [alUp]; rw [hgd]
      have htu : totUp L k + x.length ≤ 1048576 := by
        have h1 := totUp_mono L (show k + 1 ≤ n by omega)
        simp only [totUp] at h1
        rw [hgd] at h1
        have := HF.out
        omega
      have HUP := Lib.hid hup
      have HTU := Lib.hid htu
      have HAL := Lib.hid (alUp_len L s k)
      have HX := Lib.hid hx
      have hw5 : IntKind.i64.wrap ((k : Int) + 1) = (k : Int) + 1 := IntWalk.i64_in _ (by omega)
      clear hgd hup htu hx
      go_wp2
      go_loopw [5, 7] (fun v j wi => ∃ q : Nat, q ≤ x.length ∧ j = .int .i64 q ∧ wi.ownsRow w.heap.size 26 2 v (alUp L s k ++ alT x s k q).length ((alUp L s k ++ alT x s k q).flatMap twoCells) ∧ Below w.heap.size w wi) (fun _ j _ => x.length - (intOf j).toNat)
      case atStart => exact ⟨0, by omega, rfl, by simp only [alT, List.append_nil]; exact HO.out, HB.out⟩
      case round =>
        obtain ⟨q, hq, rfl, hO2, hB2⟩ := hrel
        have HO2 := Lib.hid hO2
        have HB2 := Lib.hid hB2
        clear hO2 hB2
        obtain ⟨pa, Ax, cx, rfl, ea, ecx, ex⟩ := (HA.out.below HB2.out).at_ k x HX.out
        obtain ⟨Av, cv, hv⟩ := own_slice HO2.out
        subst hv
        rcases Nat.lt_or_ge q x.length with hlt2 | hge2
        · have hlq : (q : Int) < (x.length : Int) := by omega
          have hw6 : IntKind.i64.wrap ((q : Int) + 1) = (q : Int) + 1 := IntWalk.i64_in _ (by have := HTU.out; omega)
          have HC := Lib.hid (r8May_any wr Ax B x.length m cx cb x s ex (HBS.out.below HB2.out) ecx hcb (q : Int))
          obtain ⟨M, hM⟩ : ∃ M, M = alUp L s k ++ alT x s k q := ⟨_, rfl⟩
          have hML : M.length ≤ 1048576 := by
            have h1 := HAL.out
            have h2 := alT_len x s k q
            have h3 := HTU.out
            rw [hM, List.length_append]
            omega
          rw [← hM] at HO2 ⊢
          have HM := Lib.hid hM
          clear ex hM
          cases hb : mayB x s (q : Int) with
          | true =>
            rw [hb] at HC
            have HNX := Lib.hid (by simp only [alT]; rw [if_pos hb, ← List.append_assoc, ← HM.out] : alUp L s k ++ alT x s k (q + 1) = M ++ [((k : Int), (q : Int))])
            clear hb
            go_wp2_with fail
            refine HC.out.mono ?_
            rintro e2 w2 ⟨rfl, q2, hw⟩
            have HO3 := Lib.hid (by rw [hw]; exact HO2.out : w2.ownsRow w.heap.size 26 2 (.slice Av M.length cv) M.length (M.flatMap twoCells))
            have HB3 := Lib.hid (by rw [hw]; exact below_drewN HB2.out q2 : Below w.heap.size w w2)
            clear hw
            go_wp2_with (at_builtin; refine wpList_append_own_at _ rfl (.tmp 30) (.tmp 34) 33 rfl w.heap.size 26 i0 _ 2 16 Try.underlying33 hi hz0 hz1 hz2 rfl (by decide) _ M.length _ rfl (World.ownsRow.alloc HO3.out _) ⟨w2.heap.size, 0, none⟩ 1 1 (twoCells ((k : Int), (q : Int))) rfl rfl (two_new w2 26 ((k : Int), (q : Int))) (two_one _) (by unfold maxLen; omega) (by omega) (by have := HB3.out.size; simp; omega) ?_; intro v3 w3 hown hgrow _ _; have HO4 := Lib.hid hown; have HB4 := Lib.hid ((HB3.out.alloc HB3.out.size _).grown hgrow (by have := HB3.out.size; simp; omega) (fun g hg => (HO3.out.lt g hg).1)); clear hown hgrow)
            go_roundw
            case rel =>
              refine ⟨q + 1, by omega, by go_num, ?_, HB4.out⟩
              rw [HNX.out, List.length_append, List.flatMap_append, List.flatMap_singleton]
              exact HO4.out
            case measure => simp [intOf]; omega
          | false =>
            rw [hb] at HC
            have HNX := Lib.hid (by simp only [alT]; rw [if_neg (by rw [hb]; simp), ← HM.out] : alUp L s k ++ alT x s k (q + 1) = M)
            clear hb
            go_wp2_with fail
            refine HC.out.mono ?_
            rintro e2 w2 ⟨rfl, q2, hw⟩
            have HO3 := Lib.hid (by rw [hw]; exact HO2.out : w2.ownsRow w.heap.size 26 2 (.slice Av M.length cv) M.length (M.flatMap twoCells))
            have HB3 := Lib.hid (by rw [hw]; exact below_drewN HB2.out q2 : Below w.heap.size w w2)
            clear hw
            go_wp2
            go_roundw
            case rel =>
              refine ⟨q + 1, by omega, by go_num, ?_, HB3.out⟩
              rw [HNX.out]
              exact HO3.out
            case measure => simp [intOf]; omega
        · obtain rfl : q = x.length := by omega
          have hlz : ¬ ((x.length : Int) < (x.length : Int)) := by omega
          rw [← HUP.out] at HO2
          clear ex
          go_wp2
          exact ⟨⟨k + 1, by omega, by go_num, by rw [HUP.out] at HO2 ⊢; exact HO2.out, HB2.out⟩, by simp [intOf]; omega⟩
    · obtain rfl : k = n := by omega
      have hlz : ¬ ((k : Int) < (k : Int)) := by omega
      go_wp2
      go_ret
      exact ⟨_, rfl, HO.out, HB.out⟩
end Go.Proofs.Ytjnbilcanfhkjaa
