/- The contracts of the document's Prefix, Suffix. -/
import Derived.Test.YtjmpngghjbiajaaTRef1
import Derived.Test.YtjmpngghjbiajaaKTok
namespace Go.Proofs.Ytjmpngghjbiajaa
open Go.RowKit Go.Maps Go.WideMaps

theorem intInfoI : (Try.prog.info? 3).map (fun i => (i.zero, i.size, i.bytes)) = some (some (.int .i64 0), 1, 8) := by kernel_rfl
/-- The places, up to k, of those that are so. -/
def idxUp (p : Nm → Bool) (L : List Nm) : Nat → List Int
  | 0 => []
  | k + 1 => if p (L.getD k []) = true then idxUp p L k ++ [(k : Int)] else idxUp p L k
theorem idxUp_len (p : Nm → Bool) (L : List Nm) (k : Nat) : (idxUp p L k).length ≤ k := by
  induction k with
  | zero => simp [idxUp]
  | succ k ih =>
    simp only [idxUp]
    split
    · simp; omega
    · omega
theorem idxUp_yes {p : Nm → Bool} {L : List Nm} {k : Nat} {x : Nm} (hx : L[k]? = some x) (h : p x = true) : idxUp p L (k + 1) = idxUp p L k ++ [(k : Int)] := by
  simp only [idxUp, List.getD_eq_getElem?_getD, hx, Option.getD_some, h, if_true]
theorem idxUp_no {p : Nm → Bool} {L : List Nm} {k : Nat} {x : Nm} (hx : L[k]? = some x) (h : p x = false) : idxUp p L (k + 1) = idxUp p L k := by
  simp only [idxUp, List.getD_eq_getElem?_getD, hx, Option.getD_some, h]
  rfl
/-- What such a search leaves. -/
def IdxOut (w : World) (l : List Int) (e : Ending) (w' : World) : Prop := ∃ v, e = .returned v ∧ w'.ownsRow w.heap.size 3 1 v l.length (l.map i64V) ∧ Below w.heap.size w w'

set_option maxHeartbeats 4000000 in
set_option maxRecDepth 100000 in
theorem r7Prefix_any (w : World) (A B : Option Addr) (n m ca cb : Nat) (L : List Nm) (s : Nm) (ha : RowsSee w A n L) (hb : BytesIn w B m s) (hn : n ≤ 1099511627776) (hm : m ≤ 1099511627776) (hF : Fits L) :
    Calls Try.prog 14 #[.slice A n ca, .slice B m cb] w (IdxOut w (idxUp (fun t => atB t 0 s) L n)) := by
  obtain ⟨i0, hi, hz0, hz1, hz2⟩ := info_parts intInfoI
  have HA := Lib.hid ha
  have HBS := Lib.hid hb
  have HLA := Lib.hid ha.len
  have HF := Lib.hid hF
  have hls : s.length = m := by have := hb.2.1.len; simpa using this
  have HLS := Lib.hid hls
  obtain ⟨p, hp⟩ : ∃ p : Nm → Bool, p = fun t => atB t 0 s := ⟨_, rfl⟩
  rw [← hp]
  have HP := Lib.hid hp
  clear ha hb hF hls hp
  go_enter Try.func14, Try.ntmps14
  go_wp2
  go_loopw [5, 6] (fun v i wr => ∃ k : Nat, k ≤ n ∧ i = .int .i64 k ∧ wr.ownsRow w.heap.size 3 1 v (idxUp p L k).length ((idxUp p L k).map i64V) ∧ Below w.heap.size w wr) (fun _ i _ => n - (intOf i).toNat)
  case atStart => exact ⟨0, by omega, rfl, ⟨rfl, .inl ⟨rfl, rfl⟩⟩, Below.refl _ _⟩
  case round =>
    obtain ⟨k, hk, rfl, hO, hB⟩ := hrel
    have HO := Lib.hid hO
    have HB := Lib.hid hB
    clear hO hB
    obtain ⟨Av, cv, hv⟩ := own_slice HO.out
    subst hv
    rcases Nat.lt_or_ge k n with hlt | hge
    · have hlt' : (k : Int) < (n : Int) := by omega
      have p0 : (0 : Int) ≤ (k : Int) := by omega
      obtain ⟨x, hx⟩ : ∃ x, L[k]? = some x := ⟨_, List.getElem?_eq_getElem (by rw [HLA.out]; exact hlt)⟩
      obtain ⟨pa, Ax, cx, rfl, ea, ecx, ex⟩ := (HA.out.below HB.out).at_ k x hx
      have hxx := Lib.hid hx
      have hxl := HF.out.at hx
      clear hx
      have EX := Lib.hid ex
      clear ex
      have hidl := idxUp_len p L k
      cases hb : p x with
      | true =>
        have hb2 : atB x (0) s = true := by rw [HP.out] at hb; simpa using hb
        have HNX := Lib.hid (idxUp_yes hxx.out hb)
        clear hb
        go_wp2_with fail
        refine (r7at_any _ Ax B x.length m cx cb x s EX.out (HBS.out.below HB.out) ecx hm 0 (by omega) (by omega)).mono ?_
        rintro e2 w2 ⟨rfl, q2, hw⟩
        rw [hb2]
        have HO1 : Hid (w2.ownsRow w.heap.size 3 1 (.slice Av (idxUp p L k).length cv) (idxUp p L k).length ((idxUp p L k).map i64V)) := Lib.hid (by rw [hw]; exact HO.out)
        have HB1 : Hid (Below w.heap.size w w2) := Lib.hid (by rw [hw]; exact below_drewN HB.out q2)
        clear hw hb2
        go_wp2_with (at_builtin; refine wpList_append_src _ rfl (.tmp 19) (.tmp 21) 30 rfl w.heap.size 3 i0 (.int .i64 0) 8 Try.underlying30 hi hz0 hz1 hz2 rfl _ (idxUp p L k).length _ rfl (World.ownsRow.alloc HO1.out _) _ 1 1 _ rfl (one_int_src _ 3 k) (i64V_one [(k : Int)]) (by unfold maxLen; omega) (by omega) (by have := HB1.out.size; simp; omega) ?_; intro v3 w3 hown hgrow _; have HO3 := Lib.hid hown; have HB3 := Lib.hid ((HB1.out.alloc HB1.out.size _).grown hgrow (by have := HB1.out.size; simp; omega) (fun g hg => (HO1.out.lt g hg).1)); clear hown hgrow)
        go_roundw
        case rel =>
          refine ⟨k + 1, by omega, by go_num, ?_, HB3.out⟩
          rw [HNX.out, List.length_append, List.map_append]
          exact HO3.out
        case measure => simp [intOf]; omega
      | false =>
        have hb2 : atB x (0) s = false := by rw [HP.out] at hb; simpa using hb
        have HNX := Lib.hid (idxUp_no hxx.out hb)
        clear hb
        go_wp2_with fail
        refine (r7at_any _ Ax B x.length m cx cb x s EX.out (HBS.out.below HB.out) ecx hm 0 (by omega) (by omega)).mono ?_
        rintro e2 w2 ⟨rfl, q2, hw⟩
        rw [hb2]
        have HO1 : Hid (w2.ownsRow w.heap.size 3 1 (.slice Av (idxUp p L k).length cv) (idxUp p L k).length ((idxUp p L k).map i64V)) := Lib.hid (by rw [hw]; exact HO.out)
        have HB1 : Hid (Below w.heap.size w w2) := Lib.hid (by rw [hw]; exact below_drewN HB.out q2)
        clear hw hb2
        go_wp2
        go_roundw
        case rel =>
          refine ⟨k + 1, by omega, by go_num, ?_, HB1.out⟩
          rw [HNX.out]
          exact HO1.out
        case measure => simp [intOf]; omega
    · obtain rfl : k = n := by omega
      have hlz : ¬ ((k : Int) < (k : Int)) := by omega
      go_wp2
      go_ret
      exact ⟨_, rfl, HO.out, HB.out⟩

end Go.Proofs.Ytjmpngghjbiajaa
