/- The contract of the landed Of. -/
import Derived.Test.YtjnbilcanfhkjaaOChs
import Derived.Test.YtjnbilcanfhkjaaIterI
import Derived.Maps.OwnSet
namespace Go.Proofs.Ytjnbilcanfhkjaa
open Go.RowKit Go.Maps Go.WideMaps

/-- Each number's row, with the number ahead of each. -/
def rowAt (f : Int → List Int) (t : Int) : List (Int × Int) := (f t).map fun j => (t, j)
def rowsOf (f : Int → List Int) (K : List Int) : List (Int × Int) := K.flatMap (rowAt f)
theorem rowsOf_up (L : List Nm) (s : Nm) : ∀ N : Nat, rowsOf (fun t => shOf (tokI L t) s) (keysUp (fun t => shOf (tokI L t) s) N) = alUp L s N
  | 0 => rfl
  | N + 1 => by
    rw [keysUp_succ]
    unfold rowsOf
    rw [List.flatMap_append]
    have ih := rowsOf_up L s N
    unfold rowsOf at ih
    rw [ih]
    simp only [alUp]
    congr 1
    have e : tokI L (N : Int) = L.getD N [] := by
      unfold tokI
      split
      · rw [Int.toNat_natCast]
      · rename_i h
        rw [List.getD_eq_getElem?_getD, List.getElem?_eq_none (by omega)]
        rfl
    have e2 : alT (L.getD N []) s N (L.getD N []).length = rowAt (fun t => shOf (tokI L t) s) (N : Int) := by
      unfold rowAt
      rw [alT_map]
      simp only [e, shOf]
    rw [e2]
    by_cases h : shOf (tokI L (N : Int)) s = []
    · rw [if_neg (by simpa using h)]
      unfold rowAt
      simp only [h]
      rfl
    · rw [if_pos h]
      simp [List.flatMap_cons]
theorem rowsOf_next {f : Int → List Int} {K : List Int} {k : Nat} {t : Int} (h : K[k]? = some t) : rowsOf f (K.take (k + 1)) = rowsOf f (K.take k) ++ rowAt f t := by
  unfold rowsOf
  rw [List.take_add_one, h, List.flatMap_append]
  simp
theorem rowsOf_le (f : Int → List Int) (K : List Int) (k : Nat) : (rowsOf f (K.take k)).length ≤ (rowsOf f K).length := by
  have h : rowsOf f K = rowsOf f (K.take k) ++ rowsOf f (K.drop k) := by
    unfold rowsOf
    rw [← List.flatMap_append, List.take_append_drop]
  rw [h, List.length_append]
  omega

set_option maxHeartbeats 8000000 in
set_option maxRecDepth 100000 in
theorem pof_any {w : World} {b : Nat} {L : List Nm} (hC : CovAt w b L) (hr : rightB L = true) (B : Option Addr) (m cb : Nat) (s : Nm) (hs : BytesIn w B m s) (hmc : m ≤ cb) (hm3 : m ≤ 30000) :
    Calls Try.prog 13 #[.pointer (some ⟨b, 0, none⟩), .slice B m cb] w (PairsOut w (alUp L s L.length)) := by
  obtain ⟨i0, hi, hz0, hz1, hz2⟩ := info_parts alignInfo
  have HSH := Lib.hid (shifts_any hC hr B m cb s hs hmc hm3)
  have hfew := al_few hr s
  have hlen := right_len hr
  have hup := rowsOf_up L s L.length
  have hfit : ∀ t, shOf (tokI L t) s ≠ [] → 0 ≤ t ∧ t < (L.length : Int) := fun t h => by
    rcases Decidable.em (0 ≤ t ∧ t < (L.length : Int)) with h1 | h1
    · exact h1
    · refine absurd ?_ h
      unfold tokI
      rw [if_neg h1]
      rfl
  obtain ⟨f, hf⟩ : ∃ f : Int → List Int, f = fun t => shOf (tokI L t) s := ⟨_, rfl⟩
  rw [← hf] at HSH hup
  have hsh16 : ∀ t, ∀ y ∈ f t, 0 ≤ y ∧ y < 16 := fun t y h => by
    rw [hf] at h
    obtain ⟨j, rfl, h1, _⟩ := shOf_mem.1 h
    have := right_tok hr t
    omega
  have hfit' : ∀ t, f t ≠ [] → 0 ≤ t ∧ t < (L.length : Int) := fun t h => hfit t (by rw [hf] at h; exact h)
  obtain ⟨K, hK⟩ : ∃ K, K = keysUp f L.length := ⟨_, rfl⟩
  rw [← hK] at hup
  rw [← hup] at hfew ⊢
  have hKm : ∀ t ∈ K, 0 ≤ t ∧ t < 512 := fun t h => by
    rw [hK] at h
    obtain ⟨k, h1, rfl, _⟩ := keysUp_mem.1 h
    omega
  have hKl : K.length ≤ 512 := by
    rw [hK]
    unfold keysUp
    rw [List.length_map]
    refine Nat.le_trans (List.length_filter_le _ _) ?_
    rw [List.length_range]
    exact hlen
  have HK := Lib.hid hK
  have HKM := Lib.hid hKm
  have HFEW := Lib.hid hfew
  have HFIT := Lib.hid hfit'
  have H16 := Lib.hid hsh16
  clear hs hC hr hfit hfit' hK hKm hfew hup hf hsh16 hlen
  go_enter Try.func13, Try.ntmps13
  go_wp2_with fail
  refine HSH.out.mono ?_
  rintro e w1 ⟨n, D, G, rfl, hb1, hg, hG, hn, hS⟩
  have hmax : Maps.size D ≤ maxLen := by have := (Grp.map hg.own).size_le; unfold maxLen; omega
  have hbytes : Maps.size D * 8 ≤ 140737488355328 := by have := (Grp.map hg.own).size_le; omega
  have HKE := Lib.hid ((callsIn_wide (n := 5)).1 (Try.imaps_Keys (some w.heap.size) w1))
  have hso : Calls Try.prog 24 #[.func (.func 35) #[] #[.pointer (some ⟨w1.heap.size, 0, none⟩)]] (w1.alloc (.cells #[.map (some w.heap.size)] 51)) fun e w' => ∃ A c, e = .returned (.slice A K.length c) ∧ IntsIn w' A K.length K ∧ Below w1.heap.size w1 w' := by
    refine ((callsIn_wide (n := 5)).1 (Try.islices_Sorted_keys w.heap.size n D _ w1 (Grp.map hg.own) hmax hbytes)).mono ?_
    rintro e2 w2 ⟨v, ss, rfl, hP, hrow, hnil, hb⟩
    have hk1 : ss.mergeSort leI = K := by rw [HK.out]; exact hS.keys hg.own HFIT.out hP
    have hrow' : w2.ownsRow w1.heap.size 3 1 v ss.length ((ss.mergeSort leI).map i64V) := rowBase_le hrow (by simp)
    have hsl : ss.length = K.length := by rw [← hk1]; exact (List.mergeSort_perm ss leI).length_eq.symm
    rw [hk1, hsl] at hrow'
    obtain ⟨Ak, ck, rfl⟩ := own_slice hrow'
    exact ⟨Ak, ck, rfl, IntsIn.own hrow' (by unfold maxLen; omega) (fun x hx => by have := HKM.out x hx; omega), ((Below.refl _ w1).alloc (Nat.le_refl _) _).trans (hb.mono (by simp))⟩
  have HSO := Lib.hid hso
  have HB1 := Lib.hid hb1
  have HG := Lib.hid hg
  have HGF := Lib.hid hG
  have HS := Lib.hid hS
  have HSZ : Hid (w.heap.size ≤ w1.heap.size) := Lib.hid hb1.size
  clear hb1 hg hG hS hmax hbytes hso
  go_wp2_with (first
    | (go_at_call 25; refine HKE.out.mono ?_; rintro e2 w2 ⟨rfl, rfl⟩)
    | (go_at_call 24; refine HSO.out.mono ?_; rintro e2 w2 ⟨Ak, ck, rfl, hki, hb2⟩))
  have HKI := Lib.hid hki
  have HB2 := Lib.hid (below_then HB1.out hb2 HSZ.out)
  have HB12 := Lib.hid hb2
  have HSZ2 : Hid (w.heap.size ≤ w2.heap.size) := Lib.hid (Nat.le_trans HSZ.out hb2.size)
  have HSZ12 : Hid (w1.heap.size ≤ w2.heap.size) := Lib.hid hb2.size
  have HG2 := Lib.hid (HG.out.below hb2)
  have HGF2 := Lib.hid (fun i h => Nat.lt_of_lt_of_le (HGF.out i h) hb2.size : ∀ i, G i → i < w2.heap.size)
  clear hb2 hki HSO HKE HG HGF HB12
  go_loopw [5, 18] (fun v i wr => ∃ k : Nat, k ≤ K.length ∧ i = .int .i64 k ∧ wr.ownsRow w2.heap.size 26 2 v (rowsOf f (K.take k)).length ((rowsOf f (K.take k)).flatMap twoCells) ∧ Below w2.heap.size w2 wr) (fun _ i _ => K.length - (Go.RowKit.intOf i).toNat)
  case atStart => exact ⟨0, by omega, rfl, ⟨rfl, .inl ⟨rfl, rfl⟩⟩, Below.refl _ _⟩
  case round =>
    obtain ⟨k, hk, rfl, hO, hB⟩ := hrel
    have HO := Lib.hid hO
    have HB := Lib.hid hB
    clear hO hB
    rcases Nat.lt_or_ge k K.length with hlt | hge
    · have hlt' : (k : Int) < (K.length : Int) := by omega
      have p0 : (0 : Int) ≤ (k : Int) := by omega
      obtain ⟨pc, t, rfl, hkk, ec, hb1, hb2⟩ := (HKI.out.below HB.out).at k hlt
      have ht512 := HKM.out t (List.mem_of_getElem? hkk)
      have ht64 : fits64 t := by unfold fits64; omega
      have hw5 : IntKind.i64.wrap ((k : Int) + 1) = (k : Int) + 1 := IntWalk.i64_in _ (by omega)
      have hnx := rowsOf_next (f := f) hkk
      have hle := rowsOf_le f K (k + 1)
      rw [hnx, List.length_append] at hle
      have hfl : (f t).length = (rowAt f t).length := by unfold rowAt; rw [List.length_map]
      rw [← hfl] at hle
      have hfew := HFEW.out
      obtain ⟨P, hP⟩ : ∃ P, P = rowsOf f (K.take k) := ⟨_, rfl⟩
      rw [← hP] at HO hnx hle
      obtain ⟨A, c, hlook, hin, hAG⟩ := HS.out.look (HG2.out.below HB.out) (by unfold maxLen; omega) ht64
      have HNX := Lib.hid hnx
      have HY := Lib.hid (H16.out t)
      obtain ⟨g, hg⟩ : ∃ g, g = f t := ⟨_, rfl⟩
      have HRA := Lib.hid (by unfold rowAt; rw [← hg] : rowAt f t = g.map fun j => (t, j))
      rw [← hg] at HY hle
      simp only [← hg] at hlook hin
      have HIN := Lib.hid hin
      have HAG := Lib.hid (fun ad e => HGF2.out _ (hAG ad e) : ∀ ad, A = some ad → ad.block < w2.heap.size)
      have hPg : P.length + g.length ≤ 8192 := by omega
      clear hkk hnx hle hfl hfew hP hin hAG hg ht512
      go_wp2
      clear hlook
      go_loopw [5, 26] (fun v j wi => ∃ q : Nat, q ≤ g.length ∧ j = .int .i64 q ∧ wi.ownsRow w2.heap.size 26 2 v (P ++ (g.take q).map fun j => (t, j)).length ((P ++ (g.take q).map fun j => (t, j)).flatMap twoCells) ∧ Below w2.heap.size w2 wi) (fun _ j _ => g.length - (Go.RowKit.intOf j).toNat)
      case atStart => exact ⟨0, by omega, rfl, by simpa using HO.out, HB.out⟩
      case round =>
        obtain ⟨q, hq, rfl, hO2, hB2⟩ := hrel
        have HO2 := Lib.hid hO2
        have HB2' := Lib.hid hB2
        clear hO2 hB2
        obtain ⟨Av, cv, hv⟩ := own_slice HO2.out
        subst hv
        rcases Nat.lt_or_ge q g.length with hlt2 | hge2
        · have hlq : (q : Int) < (g.length : Int) := by omega
          have q0 : (0 : Int) ≤ (q : Int) := by omega
          obtain ⟨pa, y, rfl, hy, ey, hy1, hy2⟩ := (HIN.out.across HAG.out HB.out HB2'.out).at q hlt2
          have hw6 : IntKind.i64.wrap ((q : Int) + 1) = (q : Int) + 1 := IntWalk.i64_in _ (by omega)
          obtain ⟨M, hM⟩ : ∃ M, M = P ++ (g.take q).map fun j => (t, j) := ⟨_, rfl⟩
          have hML : M.length ≤ 1048576 := by
            rw [hM, List.length_append, List.length_map, List.length_take]
            omega
          have HNX2 := Lib.hid (by rw [hM, List.take_add_one, hy]; simp : P ++ (g.take (q + 1)).map (fun j => (t, j)) = M ++ [(t, y)])
          rw [← hM] at HO2 ⊢
          clear hM hy hy1 hy2
          go_wp2_with (at_builtin; refine wpList_append_own_at _ rfl (.tmp 30) (.tmp 34) 33 rfl w2.heap.size 26 i0 _ 2 16 Try.underlying33 hi hz0 hz1 hz2 rfl (by decide) _ M.length _ rfl (World.ownsRow.alloc HO2.out _) ⟨wr.heap.size, 0, none⟩ 1 1 (twoCells (t, y)) rfl rfl (two_new wr 26 (t, y)) (two_one _) (by unfold maxLen; omega) (by omega) (by have := HB2'.out.size; simp; omega) ?_; intro v3 w3 hown hgrow _ _; have HO4 := Lib.hid hown; have HB4 := Lib.hid ((HB2'.out.alloc HB2'.out.size _).grown hgrow (by have := HB2'.out.size; simp; omega) (fun g hg => (HO2.out.lt g hg).1)); clear hown hgrow)
          go_roundw
          case rel =>
            refine ⟨q + 1, by omega, by go_num, ?_, HB4.out⟩
            rw [HNX2.out, List.length_append, List.flatMap_append, List.flatMap_singleton]
            exact HO4.out
          case measure => simp [Go.RowKit.intOf]; omega
        · obtain rfl : q = g.length := by omega
          have hlz : ¬ ((g.length : Int) < (g.length : Int)) := by omega
          rw [List.take_length, ← HRA.out, ← HNX.out] at HO2
          go_wp2
          refine ⟨⟨k + 1, by omega, by go_num, ?_, HB2'.out⟩, by simp [Go.RowKit.intOf]; omega⟩
          rw [List.take_length, ← HRA.out, ← HNX.out]
          exact HO2.out
    · obtain rfl : k = K.length := by omega
      have hlz : ¬ ((K.length : Int) < (K.length : Int)) := by omega
      rw [List.take_length] at HO
      go_wp2
      go_ret
      exact ⟨_, rfl, rowBase_le HO.out HSZ2.out, below_then HB2.out HB.out HSZ2.out⟩
end Go.Proofs.Ytjnbilcanfhkjaa
