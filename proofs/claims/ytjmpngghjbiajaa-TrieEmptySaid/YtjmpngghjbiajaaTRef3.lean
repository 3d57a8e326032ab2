/- The contract of the document's Suffix. -/
import Derived.Test.YtjmpngghjbiajaaTRef2
namespace Go.Proofs.Ytjmpngghjbiajaa
open Go.RowKit Go.Maps Go.WideMaps

theorem r7at_quiet {w : World} (A B : Option Addr) (n m ca cb : Nat) (t s : Nm) (ha : BytesIn w A n t) (hb : BytesIn w B m s) (hc : n ≤ ca) (hm : m ≤ 1099511627776) (i : Int) (h1 : -4398046511104 ≤ i) (h2 : i ≤ 4398046511104) {b : Bool} (hat : atB t i s = b) {q : Nat} :
    Calls Try.prog 25 #[.slice A n ca, .int .i64 i, .slice B m cb] (w.drewN q) fun e w'' => e = .returned (.bool b) ∧ ∃ m, w'' = w.drewN m := by
  have h := r7at_any (w.drewN q) A B n m ca cb t s (ha.drewN q) (hb.drewN q) hc hm i h1 h2
  rw [hat] at h
  exact h.mono fun e w'' ⟨he, q2, hw⟩ => ⟨he, q + q2, by rw [hw, World.drewN_drewN]⟩

set_option maxHeartbeats 4000000 in
set_option maxRecDepth 100000 in
theorem r7Suffix_any (w : World) (A B : Option Addr) (n m ca cb : Nat) (L : List Nm) (s : Nm) (ha : RowsSee w A n L) (hb : BytesIn w B m s) (hn : n ≤ 1099511627776) (hm : m ≤ 1099511627776) (hF : Fits L) :
    Calls Try.prog 16 #[.slice A n ca, .slice B m cb] w (IdxOut w (idxUp (fun t => atB t ((t.length : Int) - (s.length : Int)) s) L n)) := by
  obtain ⟨i0, hi, hz0, hz1, hz2⟩ := info_parts intInfoI
  have HA := Lib.hid ha
  have HBS := Lib.hid hb
  have HLA := Lib.hid ha.len
  have HF := Lib.hid hF
  have hls : s.length = m := by have := hb.2.1.len; simpa using this
  have HLS := Lib.hid hls
  obtain ⟨p, hp⟩ : ∃ p : Nm → Bool, p = fun t => atB t ((t.length : Int) - (s.length : Int)) s := ⟨_, rfl⟩
  rw [← hp]
  have HP := Lib.hid hp
  clear ha hb hF hls hp
  go_enter Try.func16, Try.ntmps16
  go_wp2
  go_loopw [5, 6] (fun v i wr => ∃ k : Nat, k ≤ n ∧ i = .int .i64 k ∧ wr.ownsRow w.heap.size 3 1 v (idxUp p L k).length ((idxUp p L k).map i64V) ∧ Below w.heap.size w wr) (fun _ i _ => n - (intOf i).toNat)
  case atStart => exact ⟨0, by omega, rfl, ⟨rfl, .inl ⟨rfl, rfl⟩⟩, Below.refl _ _⟩
  case round =>
    obtain ⟨k, hk, rfl, hO, hB⟩ := hrel
    have HO := Lib.hid hO
    have HB := Lib.hid hB
    clear hO hB
    obtain ⟨Av, cv, hv⟩ := own_slice HO.out
    subst hv
    rcases Nat.lt_or_ge k n with hlt | hge
    · have hlt' : (k : Int) < (n : Int) := by omega
      have p0 : (0 : Int) ≤ (k : Int) := by omega
      obtain ⟨x, hx⟩ : ∃ x, L[k]? = some x := ⟨_, List.getElem?_eq_getElem (by rw [HLA.out]; exact hlt)⟩
      obtain ⟨pa, Ax, cx, rfl, ea, ecx, ex⟩ := (HA.out.below HB.out).at_ k x hx
      have hxx := Lib.hid hx
      have hxl := HF.out.at hx
      clear hx
      have EX := Lib.hid ex
      clear ex
      have hidl := idxUp_len p L k
      have hsub : IntKind.i64.wrap ((x.length : Int) - (m : Int)) = (x.length : Int) - (m : Int) := IntWalk.i64_in _ (by omega)
      have ea' : ∀ q, (wr.drewN q).cell? (pa.add k) = some (.slice Ax x.length cx) := fun _ => ea
      cases hb : p x with
      | true =>
        have hb2 : atB x ((x.length : Int) - (m : Int)) s = true := by rw [HP.out] at hb; rw [HLS.out] at hb; exact hb
        have HNX := Lib.hid (idxUp_yes hxx.out hb)
        clear hb
        go_wp2_with fail
        go_quiet (first | (go_at_call 25; refine r7at_quiet Ax B x.length m cx cb x s EX.out (HBS.out.below HB.out) ecx hm ((x.length : Int) - (m : Int)) (by omega) (by omega) hb2))
        obtain ⟨w2, hw⟩ : ∃ w2, w2 = wr.drewN nq := ⟨_, rfl⟩
        rw [← hw]
        have HO1 : Hid (w2.ownsRow w.heap.size 3 1 (.slice Av (idxUp p L k).length cv) (idxUp p L k).length ((idxUp p L k).map i64V)) := Lib.hid (by rw [hw]; exact HO.out)
        have HB1 : Hid (Below w.heap.size w w2) := Lib.hid (by rw [hw]; exact below_drewN HB.out nq)
        clear hw hb2
        go_wp2_with (at_builtin; refine wpList_append_src _ rfl (.tmp 27) (.tmp 29) 30 rfl w.heap.size 3 i0 (.int .i64 0) 8 Try.underlying30 hi hz0 hz1 hz2 rfl _ (idxUp p L k).length _ rfl (World.ownsRow.alloc HO1.out _) _ 1 1 _ rfl (one_int_src _ 3 k) (i64V_one [(k : Int)]) (by unfold maxLen; omega) (by omega) (by have := HB1.out.size; simp; omega) ?_; intro v3 w3 hown hgrow _; have HO3 := Lib.hid hown; have HB3 := Lib.hid ((HB1.out.alloc HB1.out.size _).grown hgrow (by have := HB1.out.size; simp; omega) (fun g hg => (HO1.out.lt g hg).1)); clear hown hgrow)
        go_roundw
        case rel =>
          refine ⟨k + 1, by omega, by go_num, ?_, HB3.out⟩
          rw [HNX.out, List.length_append, List.map_append]
          exact HO3.out
        case measure => simp [intOf]; omega
      | false =>
        have hb2 : atB x ((x.length : Int) - (m : Int)) s = false := by rw [HP.out] at hb; rw [HLS.out] at hb; exact hb
        have HNX := Lib.hid (idxUp_no hxx.out hb)
        clear hb
        go_wp2_with fail
        go_quiet (first | (go_at_call 25; refine r7at_quiet Ax B x.length m cx cb x s EX.out (HBS.out.below HB.out) ecx hm ((x.length : Int) - (m : Int)) (by omega) (by omega) hb2))
        obtain ⟨w2, hw⟩ : ∃ w2, w2 = wr.drewN nq := ⟨_, rfl⟩
        rw [← hw]
        have HO1 : Hid (w2.ownsRow w.heap.size 3 1 (.slice Av (idxUp p L k).length cv) (idxUp p L k).length ((idxUp p L k).map i64V)) := Lib.hid (by rw [hw]; exact HO.out)
        have HB1 : Hid (Below w.heap.size w w2) := Lib.hid (by rw [hw]; exact below_drewN HB.out nq)
        clear hw hb2
        go_wp2
        go_roundw
        case rel =>
          refine ⟨k + 1, by omega, by go_num, ?_, HB1.out⟩
          rw [HNX.out]
          exact HO1.out
        case measure => simp [intOf]; omega
    · obtain rfl : k = n := by omega
      have hlz : ¬ ((k : Int) < (k : Int)) := by omega
      go_wp2
      go_ret
      exact ⟨_, rfl, HO.out, HB.out⟩

end Go.Proofs.Ytjmpngghjbiajaa
