/- The contract of the document's Infix, Right. -/
import Derived.Test.YtjmpngghjbiajaaTRef3
namespace Go.Proofs.Ytjmpngghjbiajaa
open Go.RowKit Go.Maps Go.WideMaps

def anyUp (x s : Nm) (j : Nat) : Bool := (List.range j).any fun (k : Nat) => atB x k s
def infB (x s : Nm) : Bool := anyUp x s (x.length + 1)
theorem anyUp_succ (x s : Nm) (j : Nat) : anyUp x s (j + 1) = (anyUp x s j || atB x j s) := by
  unfold anyUp
  rw [List.range_succ, List.any_append]
  simp

set_option maxHeartbeats 4000000 in
set_option maxRecDepth 100000 in
theorem r7Infix_any (w : World) (A B : Option Addr) (n m ca cb : Nat) (L : List Nm) (s : Nm) (ha : RowsSee w A n L) (hb : BytesIn w B m s) (hn : n ≤ 1099511627776) (hm : m ≤ 1099511627776) (hF : Fits L) :
    Calls Try.prog 18 #[.slice A n ca, .slice B m cb] w (IdxOut w (idxUp (fun t => infB t s) L n)) := by
  obtain ⟨i0, hi, hz0, hz1, hz2⟩ := info_parts intInfoI
  have HA := Lib.hid ha
  have HBS := Lib.hid hb
  have HLA := Lib.hid ha.len
  have HF := Lib.hid hF
  have hls : s.length = m := by have := hb.2.1.len; simpa using this
  have HLS := Lib.hid hls
  obtain ⟨p, hp⟩ : ∃ p : Nm → Bool, p = fun t => infB t s := ⟨_, rfl⟩
  rw [← hp]
  have HP := Lib.hid hp
  clear ha hb hF hls hp
  go_enter Try.func18, Try.ntmps18
  go_wp2
  go_loopw [5, 6] (fun v i wr => ∃ k : Nat, k ≤ n ∧ i = .int .i64 k ∧ wr.ownsRow w.heap.size 3 1 v (idxUp p L k).length ((idxUp p L k).map i64V) ∧ Below w.heap.size w wr) (fun _ i _ => n - (intOf i).toNat)
  case atStart => exact ⟨0, by omega, rfl, ⟨rfl, .inl ⟨rfl, rfl⟩⟩, Below.refl _ _⟩
  case round =>
    obtain ⟨k, hk, rfl, hO, hB⟩ := hrel
    have HO := Lib.hid hO
    have HB := Lib.hid hB
    clear hO hB
    obtain ⟨Av, cv, hv⟩ := own_slice HO.out
    subst hv
    rcases Nat.lt_or_ge k n with hlt | hge
    · have hlt' : (k : Int) < (n : Int) := by omega
      have p0 : (0 : Int) ≤ (k : Int) := by omega
      obtain ⟨x, hx⟩ : ∃ x, L[k]? = some x := ⟨_, List.getElem?_eq_getElem (by rw [HLA.out]; exact hlt)⟩
      obtain ⟨pa, Ax, cx, rfl, ea, ecx, ex⟩ := (HA.out.below HB.out).at_ k x hx
      have hxx := Lib.hid hx
      have hxl := HF.out.at hx
      clear hx
      have EX := Lib.hid ex
      clear ex
      have hidl := idxUp_len p L k
      have hpx : p x = infB x s := by rw [HP.out]
      have HPX := Lib.hid hpx
      clear hpx
      go_wp2
      go_loopw [7, 8] (fun b i wi => ∃ j q : Nat, j ≤ x.length + 1 ∧ i = .int .i64 j ∧ b = .bool (anyUp x s j) ∧ wi = wr.drewN q) (fun _ i _ => x.length + 1 - (intOf i).toNat)
      case atStart => exact ⟨0, 0, by omega, rfl, rfl, rfl⟩
      case round =>
        obtain ⟨j, q, hj, rfl, rfl, rfl⟩ := hrel
        have ea' : ∀ q, (wr.drewN q).cell? (pa.add k) = some (.slice Ax x.length cx) := fun _ => ea
        have HO1 : Hid ((wr.drewN q).ownsRow w.heap.size 3 1 (.slice Av (idxUp p L k).length cv) (idxUp p L k).length ((idxUp p L k).map i64V)) := HO
        rcases Nat.lt_or_ge x.length j with hgt | hle
        · obtain rfl : j = x.length + 1 := by omega
          have hjz : ¬ ((x.length : Int) + 1 ≤ (x.length : Int)) := by omega
          have hjz2 : ¬ (((x.length + 1 : Nat) : Int) ≤ (x.length : Int)) := by omega
          cases hb : anyUp x s (x.length + 1) with
          | true =>
            have HNX := Lib.hid (idxUp_yes hxx.out (HPX.out.trans hb))
            obtain ⟨w2, hw⟩ : ∃ w2, w2 = wr.drewN q := ⟨_, rfl⟩
            rw [← hw] at HO1 ⊢
            have HB1 : Hid (Below w.heap.size w w2) := Lib.hid (by rw [hw]; exact below_drewN HB.out q)
            have ea2 : w2.cell? (pa.add k) = some (.slice Ax x.length cx) := by rw [hw]; exact ea
            clear hb hw ea'
            go_wp2_with (at_builtin; refine wpList_append_src _ rfl (.tmp 35) (.tmp 37) 30 rfl w.heap.size 3 i0 (.int .i64 0) 8 Try.underlying30 hi hz0 hz1 hz2 rfl _ (idxUp p L k).length _ rfl (World.ownsRow.alloc HO1.out _) _ 1 1 _ rfl (one_int_src _ 3 k) (i64V_one [(k : Int)]) (by unfold maxLen; omega) (by omega) (by have := HB1.out.size; simp; omega) ?_; intro v3 w3 hown hgrow _; have HO3 := Lib.hid hown; have HB3 := Lib.hid ((HB1.out.alloc HB1.out.size _).grown hgrow (by have := HB1.out.size; simp; omega) (fun g hg => (HO1.out.lt g hg).1)); clear hown hgrow)
            refine ⟨⟨k + 1, by omega, by go_num, ?_, HB3.out⟩, by simp [intOf]; omega⟩
            rw [HNX.out, List.length_append, List.map_append]
            exact HO3.out
          | false =>
            have HNX := Lib.hid (idxUp_no hxx.out (HPX.out.trans hb))
            have HB1 := Lib.hid (below_drewN HB.out q)
            clear hb
            go_wp2
            refine ⟨⟨k + 1, by omega, by go_num, ?_, HB1.out⟩, by simp [intOf]; omega⟩
            rw [HNX.out]
            exact HO1.out
        · have hjz : (j : Int) ≤ (x.length : Int) := by omega
          have hup := anyUp_succ x s j
          cases hb : anyUp x s j with
          | true =>
            rw [hb, Bool.true_or] at hup
            have HUP := Lib.hid hup
            clear hup hb
            go_wp2
            refine ⟨⟨j + 1, q, by omega, by go_num, by rw [HUP.out], rfl⟩, by simp [intOf]; omega⟩
          | false =>
            rw [hb, Bool.false_or] at hup
            have HUP := Lib.hid hup
            clear hup hb
            go_wp2_with fail
            refine (r7at_any _ Ax B x.length m cx cb x s (EX.out.drewN q) ((HBS.out.below HB.out).drewN q) ecx hm j (by omega) (by omega)).mono ?_
            rintro e2 w2 ⟨rfl, q2, hw⟩
            rw [hw, World.drewN_drewN]
            clear hw
            go_wp2
            refine ⟨⟨j + 1, q + q2, by omega, by go_num, by rw [HUP.out], rfl⟩, by simp [intOf]; omega⟩
    · obtain rfl : k = n := by omega
      have hlz : ¬ ((k : Int) < (k : Int)) := by omega
      go_wp2
      go_ret
      exact ⟨_, rfl, HO.out, HB.out⟩

end Go.Proofs.Ytjmpngghjbiajaa
