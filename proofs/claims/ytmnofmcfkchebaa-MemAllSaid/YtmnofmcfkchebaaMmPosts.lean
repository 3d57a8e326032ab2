/- The document's Posts. -/
import Derived.Test.YtmnofmcfkchebaaMmMem
import Derived.Test.YtmnofmcfkchebaaKPostsG
import Derived.Test.YtmnofmcfkchebaaKTwos
import Derived.Test.YtmnofmcfkchebaaPInfo
import Derived.Deep.RegionHeld3
namespace Go.Proofs.Ytmnofmcfkchebaa
open Go.RowKit Go.Maps Go.WideMaps
set_option linter.unusedSimpArgs false

/-- Postings have come back, of one's own. -/
def PostsOut (w : World) (l : List Pst) (e : Ending) (w' : World) : Prop := ∃ v, e = .returned v ∧ PostsO w' w.heap.size v l ∧ Below w.heap.size w w'

set_option maxHeartbeats 16000000 in
set_option maxRecDepth 100000 in
theorem r12Posts_any {w : World} {G : Nat → Prop} {b : Nat} {L : List MDoc} (h : R12At w G b L) (hW : MWF L) (t : Int) : Calls Try.prog 18 #[.pointer (some ⟨b, 0, none⟩), .int .i64 t] w (PostsOut w (mPosts L t)) := by
  obtain ⟨i1, hi1, hy0, hy1, hy2⟩ := info_parts spotInfo
  obtain ⟨i2, hi2, hx0, hx1, hx2⟩ := info_parts postInfo
  obtain ⟨A, c, hblk, hsee⟩ := h.see (by have := hW.few; omega)
  have HB := Lib.hid hblk
  have HS := Lib.hid hsee
  have HOK := Lib.hid hW.ok
  have hfew := hW.few
  have hbl := hblk.lt
  obtain ⟨n, hn⟩ : ∃ n, n = L.length := ⟨_, rfl⟩
  rw [← hn] at HB HS hfew
  have HN := Lib.hid hn
  clear h hW hblk hsee hn
  go_enter Try.func18, Try.ntmps18
  go_wp2
  go_loopw [5, 6] (fun v iv wr => ∃ (i : Nat) (l : List Pst), i ≤ n ∧ iv = .int .i64 i ∧ l = postUp L t i ∧ PostsO wr w.heap.size v l ∧ Below w.heap.size w wr) (fun _ iv _ => n - (intOf iv).toNat)
  case atStart => exact ⟨0, [], by omega, rfl, rfl, PostsO.nil _ _, Below.refl _ _⟩
  case round =>
    obtain ⟨i, l, hi, rfl, hl, hO, hb⟩ := hrel
    have hll : l.length ≤ 4096 := by have := postUp_len L t i; rw [hl]; omega
    have HO := Lib.hid hO
    have HBW := Lib.hid hb
    have HLE := Lib.hid hl
    have hblk2 := HB.out.below hb hbl
    have c0 := hblk2.cell 0
    simp only [List.getElem?_toArray, List.getElem?_cons_zero] at c0
    obtain ⟨Al, cl, rfl⟩ : ∃ Al cl, u5 = .slice Al l.length cl := by
      obtain ⟨R, _, h1, _⟩ := hO
      exact own_slice h1
    clear hO hb hl hblk2
    rcases Nat.lt_or_ge i n with hlt | hge
    · have hlt' : (i : Int) < (n : Int) := by omega
      have q0 : (0 : Int) ≤ (i : Int) := by omega
      have hw5 : IntKind.i64.wrap ((i : Int) + 1) = (i : Int) + 1 := IntWalk.i64_in _ (by omega)
      obtain ⟨pa, x, B, cB, C, cC, rfl, hx, hfx, a0, a1, a2, -, -, -, -⟩ := (HS.out.below HBW.out).at i hlt
      have hok := HOK.out x (List.mem_of_getElem? hx)
      have HOKX := Lib.hid hok
      have HPU : Hid (postUp L t (i + 1) = l ++ postOne x t) := Lib.hid (by rw [postUp, HLE.out, mD_at hx])
      obtain ⟨m, hm⟩ : ∃ m, m = x.T.length := ⟨_, rfl⟩
      have hm4 : m ≤ 4096 := by rw [hm]; exact hok.few
      have HM := Lib.hid hm
      have hsm : x.S.length = m := by rw [hm]; exact hok.same
      have HCE : Hid (∀ u, Below w.heap.size w u → u.cell? ⟨b, 0, none⟩ = some (.slice (some pa) n c) ∧ u.cell? ⟨(pa.add (i * 3)).block, (pa.add (i * 3)).off + 1, none⟩ = some (.slice B m cB) ∧ u.cell? ⟨(pa.add (i * 3)).block, (pa.add (i * 3)).off + 2, none⟩ = some (.slice C m cC) ∧ IntsIn u B m x.T ∧ IntsIn u C m x.S) := Lib.hid (fun u hu => by
        obtain ⟨pa', x', B', cB', C', cC', e1, hx', -, -, b1, b2, -, hI, -, hJ⟩ := (HS.out.below hu).at i hlt
        obtain rfl := Option.some.inj e1
        obtain rfl := Option.some.inj (hx.symm.trans hx')
        obtain ⟨pa'', x'', B'', cB'', C'', cC'', f1, hx'', -, -, d1, d2, -, -, -, -⟩ := (HS.out.below HBW.out).at i hlt
        have hu0 := (HB.out.below hu hbl).cell 0
        obtain ⟨_, x3, B3, cB3, C3, cC3, g1, hx3, -, -, e3, e4, -, -, -, -⟩ := HS.out.at i hlt
        obtain rfl := Option.some.inj g1
        obtain rfl := Option.some.inj (hx.symm.trans hx3)
        have k1 := (below_cells hu e3).symm.trans b1
        have k2 := (below_cells hu e4).symm.trans b2
        have k3 := (below_cells HBW.out e3).symm.trans a1
        have k4 := (below_cells HBW.out e4).symm.trans a2
        have k5 := k1.symm.trans k3
        have k6 := k2.symm.trans k4
        injection k5 with k5
        injection k5 with k5 _ k5c
        injection k6 with k6
        injection k6 with k6 _ k6c
        subst k5 k6 k5c k6c
        rw [← hm] at b1 hI
        rw [hsm] at b2 hJ
        exact ⟨by simpa using hu0, b1, b2, hI, hJ⟩)
      obtain ⟨xd, hxd⟩ : ∃ xd, xd = x.doc := ⟨_, rfl⟩
      rw [← hxd] at a0 hfx
      have HXD := Lib.hid hxd
      obtain ⟨wo, hwo⟩ : ∃ z, z = wr := ⟨_, rfl⟩
      subst hwo
      obtain ⟨wi0, hwi0⟩ : ∃ z, z = wo.alloc (.cells #[.int .i64 xd, .slice none 0 0] 46) := ⟨_, rfl⟩
      have HBX : Hid (Blk wi0 wo.heap.size 46 #[.int .i64 xd, .slice none 0 0]) := Lib.hid (by rw [hwi0]; exact Blk.new _ _ _)
      have HWX : Hid (Below wo.heap.size wo wi0) := Lib.hid (by rw [hwi0]; exact (Below.refl _ wo).alloc (Nat.le_refl _) _)
      obtain ⟨xb, hxb⟩ : ∃ z, z = wo.heap.size := ⟨_, rfl⟩
      rw [← hxb] at HBX
      have HXB := Lib.hid hxb
      have HWI0 := Lib.hid hwi0
      have hbz := HBW.out.size
      clear hx hok hm hsm hxd hxb hwi0
      go_wp2_with fail
      rw [← HWI0.out, ← HXB.out]
      go_loopw [8] (fun kv wi => ∃ (q : Nat) (v : Value) (s : List (Int × Int)), q ≤ m ∧ kv = .int .i64 q ∧ s = spotUp x t q ∧ Blk wi xb 46 #[.int .i64 xd, v] ∧ wi.ownsRow (xb + 1) 48 2 v s.length (s.flatMap twoCells) ∧ Below wo.heap.size wo wi) (fun kv _ => m - (intOf kv).toNat)
      case atStart => exact ⟨0, _, [], by omega, rfl, rfl, HBX.out, ⟨rfl, .inl ⟨rfl, rfl⟩⟩, HWX.out⟩
      case round =>
        obtain ⟨q, v, s, hq, rfl, hs, hB, hR, hWi⟩ := hrel
        have hsl : s.length ≤ q := by rw [hs]; exact spotUp_len x t q
        obtain ⟨Av, cv, rfl⟩ := own_slice hR
        have HBI := Lib.hid hB
        have HRI := Lib.hid hR
        have HWI := Lib.hid hWi
        have HSE := Lib.hid hs
        have HBWI := Lib.hid (below_then HBW.out hWi hbz)
        obtain ⟨b0, b1, b2, hI, hJ⟩ := HCE.out wr HBWI.out
        have HI := Lib.hid hI
        have HJ := Lib.hid hJ
        have c1x := hB.cell 1
        simp only [List.getElem?_toArray, List.getElem?_cons_zero, List.getElem?_cons_succ] at c1x
        clear hB hR hWi hs hI hJ
        rcases Nat.lt_or_ge q m with hlq | hgq
        · have hlq' : (q : Int) < (m : Int) := by omega
          have p0 : (0 : Int) ≤ (q : Int) := by omega
          have hw12 : IntKind.i64.wrap ((q : Int) + 1) = (q : Int) + 1 := IntWalk.i64_in _ (by omega)
          obtain ⟨pt, y, rfl, hy, d0, -, -⟩ := HI.out.at q hlq
          obtain ⟨pc, z, rfl, hz, e0, hzf1, hzf2⟩ := HJ.out.at q hlq
          have HGT := Lib.hid (show x.T.getD q 0 = y from by rw [List.getD_eq_getElem?_getD, hy]; rfl)
          have HGS := Lib.hid (show x.S.getD q 0 = z from by rw [List.getD_eq_getElem?_getD, hz]; rfl)
          have HSS : Hid (∀ u, Below wo.heap.size wo u → u.cell? ⟨b, 0, none⟩ = some (.slice (some pa) n c) ∧ u.cell? ⟨(pa.add (i * 3)).block, (pa.add (i * 3)).off + 2, none⟩ = some (.slice (some pc) m cC) ∧ u.cell? (pc.add q) = some (.int .i64 z)) := Lib.hid (fun u hu => by
            obtain ⟨r0, -, r2, -, rJ⟩ := HCE.out u (below_then HBW.out hu hbz)
            obtain ⟨pc', z', f1, f2, f3, -, -⟩ := rJ.at q hlq
            obtain rfl := Option.some.inj f1
            obtain rfl := Option.some.inj (hz.symm.trans f2)
            exact ⟨r0, r2, f3⟩)
          clear hy hz
          by_cases hyt : y = t
          · have d1 : (y == t) = true := by simpa using hyt
            have HNX : Hid (spotUp x t (q + 1) = s ++ [((q : Int), z)]) := Lib.hid (by rw [spotUp, if_pos (by rw [HGT.out]; exact hyt), ← HSE.out, HGS.out])
            clear hyt
            go_upto_region 10 with fail
            clear c1x b1 d0
            refine wp_region_held_drew (S := fun w' => w'.cell? ⟨b, 0, none⟩ = some (.slice (some pa) n c) ∧ w'.cell? ⟨(pa.add (i * 3)).block, (pa.add (i * 3)).off + 2, none⟩ = some (.slice (some pc) m cC) ∧ w'.cell? (pc.add q) = some (.int .i64 z)) (by kernel_rfl) (HSS.out wr HWI.out) (fun hHeld => ?_)
            obtain ⟨u0, hu0⟩ : ∃ z, z = wr.drew := ⟨_, rfl⟩
            rw [← hu0] at hHeld ⊢
            have hb0 : Below wr.heap.size wr u0 := by rw [hu0]; exact (Below.refl _ wr).drew
            have HB0 := Lib.hid (HBI.out.below hb0 HBI.out.lt)
            have HR0 := Lib.hid (ownsRow_block HRI.out (fun g hg => hb0.block g (HRI.out.lt g hg).2))
            have HW0 := Lib.hid (below_then HWI.out hb0 HWI.out.size)
            have hSn0 := HSS.out _ HW0.out
            clear hu0 hb0
            refine wpAnyH_take (i := 0) (oi := ?oit10) (v := ?vt10) ?hit10 (by kernel_rfl) (by kernel_rfl) (by kernel_rfl) ?hQt10 (Or.inl ⟨?hwt10, ?hyt10⟩) (by assumption) ?restt10
            case hit10 => (first | (simp only [List.getElem?_toArray, List.getElem?_cons_zero, List.getElem?_cons_succ]; rfl) | rfl)
            case hQt10 => exact fun _ _ _ h => h
            case hwt10 => rfl
            case hyt10 => ((intro w hSw; go_simp); first | done | with_reducible rfl)
            try simp only [Act.put, List.setIfInBounds_toArray, List.set_cons_zero, List.set_cons_succ]
            refine wpAnyH_take (i := 2) (oi := ?oit22) (v := ?vt22) ?hit22 (by kernel_rfl) (by kernel_rfl) (by kernel_rfl) ?hQt22 (Or.inl ⟨?hwt22, ?hyt22⟩) (by assumption) ?restt22
            case hit22 => (first | (simp only [List.getElem?_toArray, List.getElem?_cons_zero, List.getElem?_cons_succ]; rfl) | rfl)
            case hQt22 => exact fun _ _ _ h => h
            case hwt22 => rfl
            case hyt22 => ((intro w hSw; go_simp); first | done | with_reducible rfl)
            try simp only [Act.put, List.setIfInBounds_toArray, List.set_cons_zero, List.set_cons_succ]
            refine wpAnyH_take (i := 3) (oi := ?oit33) (v := ?vt33) ?hit33 (by kernel_rfl) (by kernel_rfl) (by kernel_rfl) ?hQt33 (Or.inl ⟨?hwt33, ?hyt33⟩) (by assumption) ?restt33
            case hit33 => (first | (simp only [List.getElem?_toArray, List.getElem?_cons_zero, List.getElem?_cons_succ]; rfl) | rfl)
            case hQt33 => exact fun _ _ _ h => h
            case hwt33 => rfl
            case hyt33 => ((intro w hSw; go_simp); first | done | with_reducible rfl)
            try simp only [Act.put, List.setIfInBounds_toArray, List.set_cons_zero, List.set_cons_succ]
            refine wpAnyH_take (i := 7) (oi := ?oit47) (v := ?vt47) ?hit47 (by kernel_rfl) (by kernel_rfl) (by kernel_rfl) ?hQt47 (Or.inl ⟨?hwt47, ?hyt47⟩) (by assumption) ?restt47
            case hit47 => (first | (simp only [List.getElem?_toArray, List.getElem?_cons_zero, List.getElem?_cons_succ]; rfl) | rfl)
            case hQt47 => exact fun _ _ _ h => h
            case hwt47 => rfl
            case hyt47 => ((intro w hSw; go_simp); first | done | with_reducible rfl)
            try simp only [Act.put, List.setIfInBounds_toArray, List.set_cons_zero, List.set_cons_succ]
            refine wpAnyH_take (i := 11) (oi := ?oit511) (v := ?vt511) ?hit511 (by kernel_rfl) (by kernel_rfl) (by kernel_rfl) ?hQt511 (Or.inl ⟨?hwt511, ?hyt511⟩) (by assumption) ?restt511
            case hit511 => (first | (simp only [List.getElem?_toArray, List.getElem?_cons_zero, List.getElem?_cons_succ]; rfl) | rfl)
            case hQt511 => exact fun _ _ _ h => h
            case hwt511 => rfl
            case hyt511 => ((intro w hSw; go_simp); first | done | with_reducible rfl)
            try simp only [Act.put, List.setIfInBounds_toArray, List.set_cons_zero, List.set_cons_succ]
            refine wpAnyH_take (i := 4) (oi := ?oit64) (v := ?vt64) ?hit64 (by kernel_rfl) (by kernel_rfl) (by kernel_rfl) ?hQt64 (Or.inl ⟨?hwt64, ?hyt64⟩) (by assumption) ?restt64
            case hit64 => (first | (simp only [List.getElem?_toArray, List.getElem?_cons_zero, List.getElem?_cons_succ]; rfl) | rfl)
            case hQt64 => exact fun _ _ _ h => h
            case hwt64 => rfl
            case hyt64 => ((intro w hSw; go_simp); first | done | with_reducible rfl)
            try simp only [Act.put, List.setIfInBounds_toArray, List.set_cons_zero, List.set_cons_succ]
            refine wpAnyH_take (i := 5) (oi := ?oit75) (v := ?vt75) ?hit75 (by kernel_rfl) (by kernel_rfl) (by kernel_rfl) ?hQt75 (Or.inl ⟨?hwt75, ?hyt75⟩) (by assumption) ?restt75
            case hit75 => (first | (simp only [List.getElem?_toArray, List.getElem?_cons_zero, List.getElem?_cons_succ]; rfl) | rfl)
            case hQt75 => exact fun _ _ _ h => h
            case hwt75 => rfl
            case hyt75 => ((intro w hSw; go_simp); first | done | with_reducible rfl)
            try simp only [Act.put, List.setIfInBounds_toArray, List.set_cons_zero, List.set_cons_succ]
            refine wpAnyH_take (i := 6) (oi := ?oit86) (v := ?vt86) ?hit86 (by kernel_rfl) (by kernel_rfl) (by kernel_rfl) ?hQt86 (Or.inl ⟨?hwt86, ?hyt86⟩) (by assumption) ?restt86
            case hit86 => (first | (simp only [List.getElem?_toArray, List.getElem?_cons_zero, List.getElem?_cons_succ]; rfl) | rfl)
            case hQt86 => exact fun _ _ _ h => h
            case hwt86 => rfl
            case hyt86 => ((intro w hSw; go_simp); first | done | with_reducible rfl)
            try simp only [Act.put, List.setIfInBounds_toArray, List.set_cons_zero, List.set_cons_succ]
            refine wpAnyH_take (i := 8) (oi := ?oit98) (v := ?vt98) ?hit98 (by kernel_rfl) (by kernel_rfl) (by kernel_rfl) ?hQt98 (Or.inl ⟨?hwt98, ?hyt98⟩) (by assumption) ?restt98
            case hit98 => (first | (simp only [List.getElem?_toArray, List.getElem?_cons_zero, List.getElem?_cons_succ]; rfl) | rfl)
            case hQt98 => exact fun _ _ _ h => h
            case hwt98 => rfl
            case hyt98 => ((intro w hSw; go_simp); first | done | with_reducible rfl)
            try simp only [Act.put, List.setIfInBounds_toArray, List.set_cons_zero, List.set_cons_succ]
            refine wpAnyH_take (i := 9) (oi := ?oit109) (v := ?vt109) ?hit109 (by kernel_rfl) (by kernel_rfl) (by kernel_rfl) ?hQt109 (Or.inl ⟨?hwt109, ?hyt109⟩) (by assumption) ?restt109
            case hit109 => (first | (simp only [List.getElem?_toArray, List.getElem?_cons_zero, List.getElem?_cons_succ]; rfl) | rfl)
            case hQt109 => exact fun _ _ _ h => h
            case hwt109 => rfl
            case hyt109 => ((intro w hSw; go_simp); first | done | with_reducible rfl)
            try simp only [Act.put, List.setIfInBounds_toArray, List.set_cons_zero, List.set_cons_succ]
            refine wpAnyH_take (i := 10) (oi := ?oit1110) (v := ?vt1110) ?hit1110 (by kernel_rfl) (by kernel_rfl) (by kernel_rfl) ?hQt1110 (Or.inl ⟨?hwt1110, ?hyt1110⟩) (by assumption) ?restt1110
            case hit1110 => (first | (simp only [List.getElem?_toArray, List.getElem?_cons_zero, List.getElem?_cons_succ]; rfl) | rfl)
            case hQt1110 => exact fun _ _ _ h => h
            case hwt1110 => rfl
            case hyt1110 => ((intro w hSw; go_simp); first | done | with_reducible rfl)
            try simp only [Act.put, List.setIfInBounds_toArray, List.set_cons_zero, List.set_cons_succ]
            refine wpAnyH_take (i := 12) (oi := ?oit1212) (v := ?vt1212) ?hit1212 (by kernel_rfl) (by kernel_rfl) (by kernel_rfl) ?hQt1212 (Or.inl ⟨?hwt1212, ?hyt1212⟩) (by assumption) ?restt1212
            case hit1212 => (first | (simp only [List.getElem?_toArray, List.getElem?_cons_zero, List.getElem?_cons_succ]; rfl) | rfl)
            case hQt1212 => exact fun _ _ _ h => h
            case hwt1212 => rfl
            case hyt1212 => ((intro w hSw; go_simp); first | done | with_reducible rfl)
            try simp only [Act.put, List.setIfInBounds_toArray, List.set_cons_zero, List.set_cons_succ]
            refine wpAnyH_take (i := 13) (oi := ?oit1313) (v := ?vt1313) ?hit1313 (by kernel_rfl) (by kernel_rfl) (by kernel_rfl) ?hQt1313 (Or.inl ⟨?hwt1313, ?hyt1313⟩) (by assumption) ?restt1313
            case hit1313 => (first | (simp only [List.getElem?_toArray, List.getElem?_cons_zero, List.getElem?_cons_succ]; rfl) | rfl)
            case hQt1313 => exact fun _ _ _ h => h
            case hwt1313 => rfl
            case hyt1313 => ((intro w hSw; go_simp); first | done | with_reducible rfl)
            try simp only [Act.put, List.setIfInBounds_toArray, List.set_cons_zero, List.set_cons_succ]
            refine wpAnyH_take (i := 14) (oi := ?oit1414) (v := ?vt1414) ?hit1414 (by kernel_rfl) (by kernel_rfl) (by kernel_rfl) ?hQt1414 (Or.inl ⟨?hwt1414, ?hyt1414⟩) (by assumption) ?restt1414
            case hit1414 => (first | (simp only [List.getElem?_toArray, List.getElem?_cons_zero, List.getElem?_cons_succ]; rfl) | rfl)
            case hQt1414 => exact fun _ _ _ h => h
            case hwt1414 => rfl
            case hyt1414 => ((intro w hSw; go_simp); first | done | with_reducible rfl)
            try simp only [Act.put, List.setIfInBounds_toArray, List.set_cons_zero, List.set_cons_succ]
            refine wpAnyH_ready (rs := [1, 15]) (by kernel_rfl) (by simp) ?_
            refine AllReadyH.cons (o := ?ot15) ?ht15 ?st15 (AllReadyH.cons (o := ?ot16) ?ht16 ?st16 AllReadyH.nil)
            case ht15 => (simp only [List.getElem?_toArray, List.getElem?_cons_zero, List.getElem?_cons_succ]; rfl)
            case ht16 => (simp only [List.getElem?_toArray, List.getElem?_cons_zero, List.getElem?_cons_succ]; rfl)
            case st15 =>
              intro K hK
              have yq1 := HB0.out.cell 1
              simp only [List.getElem?_toArray, List.getElem?_cons_zero, List.getElem?_cons_succ] at yq1
              go_simp
              clear yq1
              refine hK.out _ _ (HSS.out _ HW0.out) (fun ht17 => ?_)
              clear hK K
              try simp only [Act.put, List.setIfInBounds_toArray, List.set_cons_zero, List.set_cons_succ]
              refine wpAnyH_ready (rs := [15]) (by kernel_rfl) (by simp) ?_
              refine AllReadyH.cons (o := ?ot18) ?ht18 ?st18 AllReadyH.nil
              case ht18 => (simp only [List.getElem?_toArray, List.getElem?_cons_zero, List.getElem?_cons_succ]; rfl)
              case st18 =>
                intro K hK
                go_simp
                obtain ⟨uq2, huq7⟩ : ∃ zz, zz = u0.alloc (.cells #[.int .i64 q, .int .i64 z] 48) := ⟨_, rfl⟩
                have Nq3 : Hid (Blk uq2 u0.heap.size 48 #[.int .i64 q, .int .i64 z]) := Lib.hid (by rw [huq7]; exact Blk.new _ _ _)
                rw [← huq7]
                have hbq8 : Below u0.heap.size u0 uq2 := by rw [huq7]; exact (Below.refl _ u0).alloc (Nat.le_refl _) _
                have Bq4 := Lib.hid (HB0.out.below hbq8 HB0.out.lt)
                have Rq5 := Lib.hid (ownsRow_block HR0.out (fun g hg => hbq8.block g (HR0.out.lt g hg).2))
                have Wq6 := Lib.hid (below_then HW0.out hbq8 HW0.out.size)
                clear huq7 hbq8
                have Sq9 := HSS.out _ Wq6.out
                refine hK.out _ _ (HSS.out _ Wq6.out) (fun ht19 => ?_)
                clear hK K
                try simp only [Act.put, List.setIfInBounds_toArray, List.set_cons_zero, List.set_cons_succ]
                refine wpAnyH_ready (rs := [16]) (by kernel_rfl) (by simp) ?_
                refine AllReadyH.cons (o := ?ot20) ?ht20 ?st20 AllReadyH.nil
                case ht20 => (simp only [List.getElem?_toArray, List.getElem?_cons_zero, List.getElem?_cons_succ]; rfl)
                case st20 =>
                  intro K hK
                  refine step_append_recK _ rfl (.tmp 54) (.tmp 68) 44 rfl (xb + 1) 48 i1 _ 2 16 Try.underlying44 hi1 hy0 hy1 hy2 rfl (by decide) _ s.length _ rfl Rq5.out ⟨u0.heap.size, 0, none⟩ 1 1 (twoCells ((q : Int), z)) rfl rfl (doc_src (p := ((q : Int), .int .i64 z)) Nq3.out) (two_one _) (by unfold maxLen; omega) (by omega) Bq4.out.lt ?_
                  intro vq16 uq10 hwq11 hgq12 hlq13
                  obtain ⟨Aq14, cq15, rfl⟩ := own_slice hwq11
                  have Bq17 := Lib.hid (Bq4.out.grown hgq12 (fun e => by have := (Rq5.out.lt xb e.symm).1; omega))
                  have Wq18 := Lib.hid (Wq6.out.grown hgq12 Wq6.out.size (fun g hg => by have := (Rq5.out.lt g hg).1; have := HXB.out; omega))
                  have Hhwq11 := Lib.hid hwq11
                  clear hwq11 hgq12 hlq13
                  have Sq19 := HSS.out _ Wq18.out
                  refine hK.out _ _ (HSS.out _ Wq18.out) (fun ht21 => ?_)
                  clear hK K
                  try simp only [Act.put, List.setIfInBounds_toArray, List.set_cons_zero, List.set_cons_succ]
                  refine wpAnyH_take (i := 17) (oi := ?oit2217) (v := ?vt2217) ?hit2217 (by kernel_rfl) (by kernel_rfl) (by kernel_rfl) ?hQt2217 (Or.inl ⟨?hwt2217, ?hyt2217⟩) (by assumption) ?restt2217
                  case hit2217 => (first | (simp only [List.getElem?_toArray, List.getElem?_cons_zero, List.getElem?_cons_succ]; rfl) | rfl)
                  case hQt2217 => exact fun _ _ _ h => h
                  case hwt2217 => rfl
                  case hyt2217 => ((intro w hSw; go_simp); first | done | with_reducible rfl)
                  try simp only [Act.put, List.setIfInBounds_toArray, List.set_cons_zero, List.set_cons_succ]
                  refine wpAnyH_ready (rs := [18]) (by kernel_rfl) (by simp) ?_
                  refine AllReadyH.cons (o := ?ot23) ?ht23 ?st23 AllReadyH.nil
                  case ht23 => (simp only [List.getElem?_toArray, List.getElem?_cons_zero, List.getElem?_cons_succ]; rfl)
                  case st23 =>
                    intro K hK
                    have yq20 := Bq17.out.cell 1
                    have zq21 := Bq17.out.frozen 1
                    simp only [List.getElem?_toArray, List.getElem?_cons_zero, List.getElem?_cons_succ] at yq20
                    go_simp
                    clear yq20 zq21
                    have Bq22 := Lib.hid (Bq17.out.set_ 1 (.slice Aq14 (s.length + 1) cq15))
                    have Rq23 := Lib.hid (show (uq10.setCell ⟨xb, 1, none⟩ (.slice Aq14 (s.length + 1) cq15)).ownsRow (xb + 1) 48 2 (.slice Aq14 (s.length + 1) cq15) (s.length + 1) _ from ownsRow_block Hhwq11.out (fun g hg => Below.heap_setCell uq10 ⟨xb, 1, none⟩ (.slice Aq14 (s.length + 1) cq15) g (by have := (Hhwq11.out.lt g hg).1; simp only; omega)))
                    have Wq24 := Lib.hid (Wq18.out.setCell (p := ⟨xb, 1, none⟩) (by have := HXB.out; simp only; omega) (.slice Aq14 (s.length + 1) cq15))
                    refine hK.out _ _ (HSS.out _ Wq24.out) (fun ht24 => ?_)
                    clear hK K
                    try simp only [Act.put, List.setIfInBounds_toArray, List.set_cons_zero, List.set_cons_succ]
                    refine wpAnyH_done (by kernel_rfl) ?_ _
                    go_wp2
                    go_roundw
                    case rel =>
                      refine ⟨q + 1, _, _, by omega, by go_num, HNX.out.symm, by simpa using Bq22.out, ?_, Wq24.out⟩
                      have hr := Rq23.out
                      rw [List.flatMap_append, List.length_append]
                      simpa using hr
                    case measure => simp [intOf]; omega
            case st16 =>
              intro K hK
              go_simp
              obtain ⟨uq25, huq30⟩ : ∃ zz, zz = u0.alloc (.cells #[.int .i64 q, .int .i64 z] 48) := ⟨_, rfl⟩
              have Nq26 : Hid (Blk uq25 u0.heap.size 48 #[.int .i64 q, .int .i64 z]) := Lib.hid (by rw [huq30]; exact Blk.new _ _ _)
              rw [← huq30]
              have hbq31 : Below u0.heap.size u0 uq25 := by rw [huq30]; exact (Below.refl _ u0).alloc (Nat.le_refl _) _
              have Bq27 := Lib.hid (HB0.out.below hbq31 HB0.out.lt)
              have Rq28 := Lib.hid (ownsRow_block HR0.out (fun g hg => hbq31.block g (HR0.out.lt g hg).2))
              have Wq29 := Lib.hid (below_then HW0.out hbq31 HW0.out.size)
              clear huq30 hbq31
              have Sq32 := HSS.out _ Wq29.out
              refine hK.out _ _ (HSS.out _ Wq29.out) (fun ht25 => ?_)
              clear hK K
              try simp only [Act.put, List.setIfInBounds_toArray, List.set_cons_zero, List.set_cons_succ]
              refine wpAnyH_ready (rs := [1]) (by kernel_rfl) (by simp) ?_
              refine AllReadyH.cons (o := ?ot26) ?ht26 ?st26 AllReadyH.nil
              case ht26 => (simp only [List.getElem?_toArray, List.getElem?_cons_zero, List.getElem?_cons_succ]; rfl)
              case st26 =>
                intro K hK
                have yq33 := Bq27.out.cell 1
                simp only [List.getElem?_toArray, List.getElem?_cons_zero, List.getElem?_cons_succ] at yq33
                go_simp
                clear yq33
                refine hK.out _ _ (HSS.out _ Wq29.out) (fun ht27 => ?_)
                clear hK K
                try simp only [Act.put, List.setIfInBounds_toArray, List.set_cons_zero, List.set_cons_succ]
                refine wpAnyH_ready (rs := [16]) (by kernel_rfl) (by simp) ?_
                refine AllReadyH.cons (o := ?ot28) ?ht28 ?st28 AllReadyH.nil
                case ht28 => (simp only [List.getElem?_toArray, List.getElem?_cons_zero, List.getElem?_cons_succ]; rfl)
                case st28 =>
                  intro K hK
                  refine step_append_recK _ rfl (.tmp 54) (.tmp 68) 44 rfl (xb + 1) 48 i1 _ 2 16 Try.underlying44 hi1 hy0 hy1 hy2 rfl (by decide) _ s.length _ rfl Rq28.out ⟨u0.heap.size, 0, none⟩ 1 1 (twoCells ((q : Int), z)) rfl rfl (doc_src (p := ((q : Int), .int .i64 z)) Nq26.out) (two_one _) (by unfold maxLen; omega) (by omega) Bq27.out.lt ?_
                  intro vq40 uq34 hwq35 hgq36 hlq37
                  obtain ⟨Aq38, cq39, rfl⟩ := own_slice hwq35
                  have Bq41 := Lib.hid (Bq27.out.grown hgq36 (fun e => by have := (Rq28.out.lt xb e.symm).1; omega))
                  have Wq42 := Lib.hid (Wq29.out.grown hgq36 Wq29.out.size (fun g hg => by have := (Rq28.out.lt g hg).1; have := HXB.out; omega))
                  have Hhwq35 := Lib.hid hwq35
                  clear hwq35 hgq36 hlq37
                  have Sq43 := HSS.out _ Wq42.out
                  refine hK.out _ _ (HSS.out _ Wq42.out) (fun ht29 => ?_)
                  clear hK K
                  try simp only [Act.put, List.setIfInBounds_toArray, List.set_cons_zero, List.set_cons_succ]
                  refine wpAnyH_take (i := 17) (oi := ?oit3017) (v := ?vt3017) ?hit3017 (by kernel_rfl) (by kernel_rfl) (by kernel_rfl) ?hQt3017 (Or.inl ⟨?hwt3017, ?hyt3017⟩) (by assumption) ?restt3017
                  case hit3017 => (first | (simp only [List.getElem?_toArray, List.getElem?_cons_zero, List.getElem?_cons_succ]; rfl) | rfl)
                  case hQt3017 => exact fun _ _ _ h => h
                  case hwt3017 => rfl
                  case hyt3017 => ((intro w hSw; go_simp); first | done | with_reducible rfl)
                  try simp only [Act.put, List.setIfInBounds_toArray, List.set_cons_zero, List.set_cons_succ]
                  refine wpAnyH_ready (rs := [18]) (by kernel_rfl) (by simp) ?_
                  refine AllReadyH.cons (o := ?ot31) ?ht31 ?st31 AllReadyH.nil
                  case ht31 => (simp only [List.getElem?_toArray, List.getElem?_cons_zero, List.getElem?_cons_succ]; rfl)
                  case st31 =>
                    intro K hK
                    have yq44 := Bq41.out.cell 1
                    have zq45 := Bq41.out.frozen 1
                    simp only [List.getElem?_toArray, List.getElem?_cons_zero, List.getElem?_cons_succ] at yq44
                    go_simp
                    clear yq44 zq45
                    have Bq46 := Lib.hid (Bq41.out.set_ 1 (.slice Aq38 (s.length + 1) cq39))
                    have Rq47 := Lib.hid (show (uq34.setCell ⟨xb, 1, none⟩ (.slice Aq38 (s.length + 1) cq39)).ownsRow (xb + 1) 48 2 (.slice Aq38 (s.length + 1) cq39) (s.length + 1) _ from ownsRow_block Hhwq35.out (fun g hg => Below.heap_setCell uq34 ⟨xb, 1, none⟩ (.slice Aq38 (s.length + 1) cq39) g (by have := (Hhwq35.out.lt g hg).1; simp only; omega)))
                    have Wq48 := Lib.hid (Wq42.out.setCell (p := ⟨xb, 1, none⟩) (by have := HXB.out; simp only; omega) (.slice Aq38 (s.length + 1) cq39))
                    refine hK.out _ _ (HSS.out _ Wq48.out) (fun ht32 => ?_)
                    clear hK K
                    try simp only [Act.put, List.setIfInBounds_toArray, List.set_cons_zero, List.set_cons_succ]
                    refine wpAnyH_done (by kernel_rfl) ?_ _
                    go_wp2
                    go_roundw
                    case rel =>
                      refine ⟨q + 1, _, _, by omega, by go_num, HNX.out.symm, by simpa using Bq46.out, ?_, Wq48.out⟩
                      have hr := Rq47.out
                      rw [List.flatMap_append, List.length_append]
                      simpa using hr
                    case measure => simp [intOf]; omega
          · have d1 : (y == t) = false := by simpa using hyt
            have HNX : Hid (spotUp x t (q + 1) = s) := Lib.hid (by rw [spotUp, if_neg (by rw [HGT.out]; exact hyt), ← HSE.out])
            clear hyt
            go_wp2
            go_roundw
            case rel => exact ⟨q + 1, _, s, by omega, by go_num, HNX.out.symm, HBI.out, HRI.out, HWI.out⟩
            case measure => simp [intOf]; omega
        · obtain rfl : q = m := by omega
          have hlz : ¬ ((q : Int) < (q : Int)) := by omega
          have HMS : Hid (s = mSpots x t) := Lib.hid (by rw [HSE.out]; unfold mSpots; rw [← HM.out])
          by_cases hs0 : 0 < s.length
          · have d1 : decide ((0 : Int) < (s.length : Int)) = true := decide_eq_true (by omega)
            have c0x := HBI.out.cell 0
            simp only [List.getElem?_toArray, List.getElem?_cons_zero, List.getElem?_cons_succ] at c0x
            obtain ⟨R, hR0, hR1, hR2⟩ := HO.out.below (HWI.out.alloc HWI.out.size (.cells #[.int .i64 xd, .slice Av s.length cv] 46))
            have hfs : ∀ p ∈ s, fits64 p.1 ∧ fits64 p.2 := fun p hp => by
              rw [HSE.out] at hp
              obtain ⟨k, h1, h2, rfl⟩ := spotUp_mem.1 hp
              have h3 : x.S[k]? = some (x.S.getD k 0) := by
                have h4 := HJ.out.len
                rw [List.getD_eq_getElem?_getD, List.getElem?_eq_getElem (by omega)]
                rfl
              have h5 := HJ.out.2.2.1 _ (List.mem_of_getElem? h3)
              unfold fits64
              simp only
              omega
            have hpin := (PairsIn.ownTwo HRI.out rfl (by unfold maxLen; omega) hfs).below ((Below.refl wr.heap.size wr).alloc (Nat.le_refl _) (.cells #[.int .i64 xd, .slice Av s.length cv] 46))
            have hux : ∀ ad, Av = some ad → ad.block < wr.heap.size ∧ xb + 1 ≤ ad.block := fun ad e => by have := HRI.out.lt ad.block (by rw [e]; rfl); omega
            have hul : ∀ g, Value.ownBlock (.slice Al l.length cl) = some g → g < wo.heap.size := fun g e => by
              obtain ⟨R', _, h1, _⟩ := HO.out
              exact (h1.lt g e).2
            have HPA : Hid (PostAt (wr.alloc (.cells #[.int .i64 xd, .slice Av s.length cv] 46)) (xd, s) (xd, .slice Av s.length cv) fun i => w.heap.size ≤ i ∧ Value.ownBlock (.slice Al l.length cl) ≠ some i) := Lib.hid ⟨rfl, hfx, Av, cv, rfl, rowCap_le HRI.out, hpin, fun ad e _ => ⟨by have := hux ad e; simp; omega, by have h1 := hux ad e; have h2 := HXB.out; omega, fun e2 => by have h1 := hux ad e; have h2 := hul _ e2; have h3 := HXB.out; omega⟩⟩
            have HR1 := Lib.hid hR1
            have HR2 := Lib.hid hR2
            have HBF := Lib.hid (below_then HBW.out HWI.out hbz)
            have HFN : Hid (l ++ [(xd, s)] = postUp L t (i + 1)) := Lib.hid (by
              rw [HPU.out]
              unfold postOne
              rw [← HMS.out, if_pos hs0, HXD.out])
            clear hR1 hR2 hfs hpin hux hul
            go_wp2_with (at_builtin; refine wpList_append_own_at _ rfl (.tmp 75) (.tmp 77) 40 rfl w.heap.size 46 i2 _ 2 32 Try.underlying40 hi2 hx0 hx1 hx2 rfl (by decide) _ l.length _ rfl HR1.out ⟨wr.heap.size, 0, none⟩ 1 1 (docCells (xd, .slice Av s.length cv)) rfl rfl (doc_src (p := (xd, .slice Av s.length cv)) (Blk.new wr 46 #[.int .i64 xd, .slice Av s.length cv])) (doc_one _ _ _ _) (by unfold maxLen; omega) (by omega) (by have := HBF.out.size; simp; omega) ?_; intro v5 w5 hown hgrow _ hloc; have HO5 := Lib.hid (PostsO.push hR0 HR2.out HPA.out hown hgrow (hloc.imp id fun e => ⟨_, e, Nat.le_refl _⟩)); have HB5 := Lib.hid ((HBF.out.alloc HBF.out.size _).grown hgrow (by have := HBF.out.size; simp; omega) (fun g hg => (HR1.out.lt g hg).1)); clear hown hgrow hloc)
            go_roundw
            case rel => exact ⟨i + 1, _, by omega, by go_num, HFN.out, HO5.out, HB5.out⟩
            case measure => simp [intOf]; omega
          · have d1 : decide ((0 : Int) < (s.length : Int)) = false := decide_eq_false (by omega)
            have HFN : Hid (l = postUp L t (i + 1)) := Lib.hid (by
              rw [HPU.out]
              unfold postOne
              rw [← HMS.out, if_neg hs0, List.append_nil])
            have HOF := Lib.hid (HO.out.below HWI.out)
            have HBF := Lib.hid (below_then HBW.out HWI.out hbz)
            go_wp2
            go_roundw
            case rel => exact ⟨i + 1, l, by omega, by go_num, HFN.out, HOF.out, HBF.out⟩
            case measure => simp [intOf]; omega
    · obtain rfl : i = n := by omega
      have hlz : ¬ ((i : Int) < (i : Int)) := by omega
      have HFN : Hid (mPosts L t = l) := Lib.hid (by unfold mPosts; rw [HLE.out, HN.out])
      go_wp2
      go_ret
      rw [HFN.out]
      exact ⟨_, rfl, HO.out, HBW.out⟩
end Go.Proofs.Ytmnofmcfkchebaa
