/- slices.All and slices.Backward over bytes: the makers, and what their functions hand out. -/
import Derived.Test.YtjnbilcanfhkjaaTRange
namespace Go.Proofs.Ytjnbilcanfhkjaa
open Go.RowKit Go.Maps Go.Shelf

attribute [local go_sem] Oper.semAt_some

/-- A function that can be ranged over hands out ys, each with some number. -/
structure IterOk (gf : Nat) (lb : Array Value) (ys : Nm) (ix : Nat → Int) (Rd : World → Prop) : Prop where
  seq : SeqIx Fence.wide Try.prog gf lb (fun k => #[.int .i64 (ix k), .int .u8 ((ys.getD k 0).toNat : Nat)]) ys.length Rd
  enters : Enters Try.prog gf

/-- What such a function reads: the slice in its box, and the bytes. -/
def ReadsBox (Bs : Nat) (A : Option Addr) (n c : Nat) (x : Nm) (W : World) : Prop := W.cell? ⟨Bs, 0, none⟩ = some (.slice A n c) ∧ BytesIn W A n x

theorem all_make (w : World) (A : Option Addr) (n c : Nat) : Calls Try.prog 39 #[.slice A n c] w fun e w' => e = .returned (.func (.func 49) #[] #[.pointer (some ⟨w.heap.size, 0, none⟩)]) ∧ w' = w.alloc (.cells #[.slice A n c] 23) := by
  go_enter Try.func39, Try.ntmps39
  go_wp2
  go_ret
  exact ⟨rfl, rfl⟩
theorem back_make (w : World) (A : Option Addr) (n c : Nat) : Calls Try.prog 40 #[.slice A n c] w fun e w' => e = .returned (.func (.func 50) #[] #[.pointer (some ⟨w.heap.size, 0, none⟩)]) ∧ w' = w.alloc (.cells #[.slice A n c] 23) := by
  go_enter Try.func40, Try.ntmps40
  go_wp2
  go_ret
  exact ⟨rfl, rfl⟩

set_option maxRecDepth 100000 in
set_option maxHeartbeats 2000000 in
theorem all_seq (Bs : Nat) (A : Option Addr) (n c : Nat) (x : Nm) (hn : x.length = n) (hb : n ≤ 1099511627776) :
    SeqIx Fence.wide Try.prog 49 #[.pointer (some ⟨Bs, 0, none⟩)] (fun k => #[.int .i64 (k : Int), .int .u8 ((x.getD k 0).toNat : Nat)]) n (ReadsBox Bs A n c x) := by
  intro m l J Jx W hRd hY hm h0
  have HN := Lib.hid hn
  clear hn
  refine callsIn_of_wp Try.func49 rfl trivial ?_ rfl
  simp only [Try.ntmps49, List.size_toArray, List.length_cons, List.length_nil, Nat.reduceAdd, Nat.reduceSub, Array.replicate_succ, Array.replicate_zero, List.push_toArray, List.append_toArray, List.nil_append, List.cons_append]
  have hbox := (hRd 0 W h0).1
  gi_wp2
  gi_loopw [7] (fun i wr => ∃ k : Nat, k ≤ n ∧ i = .int .i64 k ∧ J k wr) (fun i _ => n - (intOf i).toNat)
  case atStart => exact ⟨0, Nat.zero_le _, rfl, h0⟩
  case round =>
    obtain ⟨k, hk, rfl, hJ⟩ := hrel
    by_cases hlt : k < n
    · have hlt' : (k : Int) < (n : Int) := by omega
      have p0 : (0 : Int) ≤ (k : Int) := by omega
      obtain ⟨ad, y, rfl, hx, hc⟩ := (hRd k wr hJ).2.at k hlt
      obtain ⟨fn, tmps, assign, body, hy, hR⟩ := hY k wr hJ hlt
      have hyx : x.getD k 0 = y := by rw [List.getD_eq_getElem?_getD, hx]; rfl
      rw [hyx] at hy
      clear hyx hx
      gi_wp2
      refine hR.mono ?_
      rintro e W3 (⟨rfl, hJ3⟩ | ⟨rfl, hJx3⟩)
      · gi_wp2
        go_roundw
        case rel => exact ⟨k + 1, by omega, by go_num, hJ3⟩
        case measure => simp [intOf]; omega
      · gi_wp2
        refine bodyPost_ret (results_none rfl _ _ _) rfl ?_
        exact ⟨⟨_, rfl⟩, .inr ⟨k + 1, by omega, hJx3⟩⟩
    · obtain rfl : k = n := by omega
      have hlz : ¬ ((k : Int) < (k : Int)) := by omega
      gi_wp2
      go_end0
      exact ⟨⟨_, rfl⟩, .inl hJ⟩

set_option maxRecDepth 100000 in
set_option maxHeartbeats 2000000 in
theorem back_seq (Bs : Nat) (A : Option Addr) (n c : Nat) (x : Nm) (hn : x.length = n) (hb : n ≤ 1099511627776) :
    SeqIx Fence.wide Try.prog 50 #[.pointer (some ⟨Bs, 0, none⟩)] (fun k => #[.int .i64 ((n : Int) - 1 - (k : Int)), .int .u8 ((x.reverse.getD k 0).toNat : Nat)]) n (ReadsBox Bs A n c x) := by
  intro m l J Jx W hRd hY hm h0
  have HN := Lib.hid hn
  clear hn
  refine callsIn_of_wp Try.func50 rfl trivial ?_ rfl
  simp only [Try.ntmps50, List.size_toArray, List.length_cons, List.length_nil, Nat.reduceAdd, Nat.reduceSub, Array.replicate_succ, Array.replicate_zero, List.push_toArray, List.append_toArray, List.nil_append, List.cons_append]
  have hbox := (hRd 0 W h0).1
  have hw0 : IntKind.i64.wrap ((n : Int) - 1) = (n : Int) - 1 := IntWalk.i64_in _ (by omega)
  gi_wp2
  gi_loopw [3] (fun i wr => ∃ k : Nat, k ≤ n ∧ i = .int .i64 ((n : Int) - 1 - (k : Int)) ∧ J k wr) (fun i _ => (intOf i + 1).toNat)
  case atStart => exact ⟨0, Nat.zero_le _, by simp, h0⟩
  case round =>
    obtain ⟨k, hk, rfl, hJ⟩ := hrel
    by_cases hlt : k < n
    · obtain ⟨j, hj⟩ : ∃ j : Nat, j + 1 + k = n := ⟨n - 1 - k, by omega⟩
      have hjn : j < n := by omega
      have hji : (n : Int) - 1 - (k : Int) = (j : Int) := by omega
      have hge : (0 : Int) ≤ (j : Int) := by omega
      have hlt' : (j : Int) < (n : Int) := by omega
      have hws : IntKind.i64.wrap ((j : Int) - 1) = (j : Int) - 1 := IntWalk.i64_in _ (by omega)
      have hbx := (hRd k wr hJ).1
      obtain ⟨ad, y, rfl, hx, hc⟩ := (hRd k wr hJ).2.at j hjn
      obtain ⟨fn, tmps, assign, body, hy, hR⟩ := hY k wr hJ hlt
      have hyx : x.reverse.getD k 0 = y := by
        rw [List.getD_eq_getElem?_getD, List.getElem?_reverse (by rw [HN.out]; omega), HN.out, show n - 1 - k = j by omega, hx]
        rfl
      rw [hyx, hji] at hy
      rw [hji]
      clear hyx hx
      have HJ := Lib.hid hj
      have HJI := Lib.hid hji
      clear hj hji
      gi_wp2
      refine hR.mono ?_
      rintro e W3 (⟨rfl, hJ3⟩ | ⟨rfl, hJx3⟩)
      · gi_wp2
        go_roundw
        case rel => exact ⟨k + 1, by omega, by have := HJI.out; simp; omega, hJ3⟩
        case measure => simp [intOf]
      · gi_wp2
        refine bodyPost_ret (results_none rfl _ _ _) rfl ?_
        exact ⟨⟨_, rfl⟩, .inr ⟨k + 1, by omega, hJx3⟩⟩
    · obtain rfl : k = n := by omega
      have hlz : (k : Int) - 1 - (k : Int) = -1 := by omega
      rw [hlz]
      gi_wp2
      go_end0
      exact ⟨⟨_, rfl⟩, .inl hJ⟩

theorem all_ok (Bs : Nat) (A : Option Addr) (n c : Nat) (x : Nm) (hn : x.length = n) (hb : n ≤ 1099511627776) : IterOk 49 #[.pointer (some ⟨Bs, 0, none⟩)] x (fun k => (k : Int)) (ReadsBox Bs A n c x) :=
  ⟨by subst hn; exact all_seq Bs A _ c x rfl hb, enters_of Try.func49 (by kernel_rfl) rfl⟩
theorem back_ok (Bs : Nat) (A : Option Addr) (n c : Nat) (x : Nm) (hn : x.length = n) (hb : n ≤ 1099511627776) : IterOk 50 #[.pointer (some ⟨Bs, 0, none⟩)] x.reverse (fun k => (n : Int) - 1 - (k : Int)) (ReadsBox Bs A n c x) :=
  ⟨by rw [List.length_reverse]; subst hn; exact back_seq Bs A _ c x rfl hb, enters_of Try.func50 (by kernel_rfl) rfl⟩
end Go.Proofs.Ytjnbilcanfhkjaa
