/- One call of the laws' scripts, done. -/
import Derived.Test.YtblpppeppgfbpaaGreat
import Derived.Test.YtblpppeppgfbpaaSyncs
import Derived.Deep.MidRow
namespace Go.Proofs.Ytblpppeppgfbpaa
open Go.RowKit Go.Maps Go.WideMaps

def OpV.key (o : OpV) : Nm := o.a.data.toList
/-- What one call comes to. -/
def Step (s : St) (o : OpV) (n : Int) (s' : St) : Prop :=
  (o.what = 0 ∧ ActEnd s (TCreate s o.key) n s') ∨
  ((o.what = 1 ∨ o.what = 2) ∧ ActEnd s (TAppend s o.key o.bs) n s') ∨
  (o.what = 3 ∧ ActEnd s (TSync s o.key) n s') ∨
  (o.what = 4 ∧ ActEnd s (TRename s o.key o.bs) n s') ∨
  (o.what = 5 ∧ ActEnd s (TRemove s o.key) n s') ∨
  (o.what = 6 ∧ ActEnd s (TSyncDir s) n s') ∨
  (o.what = 7 ∧ n = 0 ∧ s' = { s with fuse := max o.n (-1) }) ∨
  (o.what = 8 ∧ n = 0 ∧ s' = s.crashed o.acts o.cs) ∨
  ((o.what < 0 ∨ 8 < o.what) ∧ n = 0 ∧ s' = s)

theorem Left.mono {w : World} {F : Nat → Prop} {b : Nat} {T T' : Int → St → Prop} {e : Ending} {w' : World} (h : Left w F b T e w') (hT : ∀ n s', T n s' → T' n s') : Left w F b T' e w' := by
  obtain ⟨n, s', F', he, h1, h2⟩ := h
  exact ⟨n, s', F', he, hT n s' h1, h2⟩
/-- Where what a call takes lies: not in the disk. -/
def Away (F : Nat → Prop) (A : Option Addr) (n : Nat) : Prop := ∀ ad, A = some ad → 0 < n → ¬ F ad.block

theorem srcAt {w W : World} {A : Option Addr} {n : Nat} {xs : List Value} (h : Src w A n xs) (hl : ∀ ad, A = some ad → 0 < n → ad.block < w.heap.size) {F : Nat → Prop} (hk : Kept F w W) (hF : Away F A n) : Src W A n xs :=
  h.keep fun ad e hn => hk.block _ (hl ad e hn) (hF ad e hn)

set_option maxHeartbeats 4000000 in
set_option maxRecDepth 100000 in
theorem does_any {w : World} {F : Nat → Prop} {b : Nat} {s : St} (hD : Disk w F b s) (hm : s.mid = false) (ha : s.acts < 1099511627776) (hcs : s.chs.length < 1099511627776) (o : OpV) (ho : OpIn w o) (h1 : Away F o.B o.bn) (h2 : Away F o.C o.k) :
    Calls Try.prog 9 #[at0 b, .agg o.cells.toArray] w (Left w F b (Step s o)) := by
  obtain ⟨what, a, B, bn, bc, bs, n, acts, C, k, cc, cs⟩ := o
  have hcase : what = 0 ∨ what = 1 ∨ what = 2 ∨ what = 3 ∨ what = 4 ∨ what = 5 ∨ what = 6 ∨ what = 7 ∨ what = 8 ∨ (what < 0 ∨ 8 < what) := by omega
  have hc1 : a.size ≤ maxLen := ho.a
  have hD1 := hD.alloc (.cells #[.int .i64 what, .string a, .slice B bn bc, .int .i64 n, .int .i64 acts, .slice C k cc] 38)
  have hk1 := (Kept.refl F w).alloc (.cells #[.int .i64 what, .string a, .slice B bn bc, .int .i64 n, .int .i64 acts, .slice C k cc] 38)
  have sB := srcAt ho.b.2.1 ho.b.2.2 hk1 h1
  have sC := srcAt ho.c.2.1 ho.c.2.2.2 hk1 h2
  have lB : ∀ ad, B = some ad → 0 < bn → ad.block < (w.alloc (.cells #[.int .i64 what, .string a, .slice B bn bc, .int .i64 n, .int .i64 acts, .slice C k cc] 38)).heap.size ∧ ¬ F ad.block := fun ad e hn => ⟨by have := ho.b.2.2 ad e hn; simp; omega, h1 ad e hn⟩
  have lC : ∀ ad, C = some ad → 0 < k → ad.block < (w.alloc (.cells #[.int .i64 what, .string a, .slice B bn bc, .int .i64 n, .int .i64 acts, .slice C k cc] 38)).heap.size ∧ ¬ F ad.block := fun ad e hn => ⟨by have := ho.c.2.2.2 ad e hn; simp; omega, h2 ad e hn⟩
  have hcv := string_of_src (n := bn) (d := bs) sB bn bc (Nat.le_refl _)
  have hbl : bs.length = bn := by have := sB.len; simpa using this
  rw [List.take_of_length_le (by omega)] at hcv
  have fin : ∀ (T : Int → St → Prop), (∀ m s', ActEnd s T m s' → Step s ⟨what, a, B, bn, bc, bs, n, acts, C, k, cc, cs⟩ m s') → ∀ e w', Left (w.alloc (.cells #[.int .i64 what, .string a, .slice B bn bc, .int .i64 n, .int .i64 acts, .slice C k cc] 38)) F b (ActEnd s T) e w' → Left w F b (Step s ⟨what, a, B, bn, bc, bs, n, acts, C, k, cc, cs⟩) e w' := fun T hT e w' h => (h.mono hT).back hk1
  have na : a.size ≤ 140737488351232 := ho.na
  have nb : bn ≤ 140737488351232 := ho.nb
  have kA : a.size ≤ 281474976710656 := by omega
  have kB : (⟨bs.toArray⟩ : ByteArray).size ≤ maxLen := by show bs.toArray.size ≤ _; unfold maxLen; simp; omega
  have C0 := Create_any hD1 hm ha hcs a hc1
  have C1 := Append_any hD1 ha a hc1 B bn bc bs sB (by omega) lB
  have C3 := Sync_any hD1 ha a hc1
  have C4 := Rename_any hD1 hm ha hcs a ⟨bs.toArray⟩ hc1 (fun _ => kA) kB
  have C5 := Remove_any hD1 hm ha hcs a hc1 (fun _ => kA)
  have C6 := SyncDir_any hD1 ha
  have C7 := Fuse_any hD1 n ho.n
  have C8 := Crash_any hD1 hcs acts ho.acts C k cc cs sC lC ho.c.2.2.1
  have HK := Lib.hid hk1
  have D1 := Lib.hid hD1
  have K0 := Lib.hid C0
  have K1 := Lib.hid C1
  have K3 := Lib.hid C3
  have K4 := Lib.hid C4
  have K5 := Lib.hid C5
  have K6 := Lib.hid C6
  have K7 := Lib.hid C7
  have K8 := Lib.hid C8
  have FIN := Lib.hid fin
  clear C0 C1 C3 C4 C5 C6 C7 C8 fin hk1 hD1 sB sC lB lC hbl na nb kA kB h1 h2 ha hcs hm hc1 ho hD
  unfold at0
  simp only [OpV.cells]
  rcases hcase with e | e | e | e | e | e | e | e | e | e
  · obtain rfl := e
    go_enter Try.func9, Try.ntmps9
    go_wp2_with (go_at_call 24; refine (Hid.out K0).mono ?_; intro e w' h; obtain ⟨n1, s1, F1, rfl, hr⟩ := FIN.out _ (fun _ _ h => .inl ⟨rfl, h⟩) _ _ h)
    go_ret
    exact ⟨n1, s1, F1, rfl, hr⟩
  · obtain rfl := e
    go_enter Try.func9, Try.ntmps9
    go_wp2_with (go_at_call 26; refine (Hid.out K1).mono ?_; intro e w' h; obtain ⟨n1, s1, F1, rfl, hr⟩ := FIN.out _ (fun _ _ h => .inr (.inl ⟨.inl rfl, h⟩)) _ _ h)
    go_ret
    exact ⟨n1, s1, F1, rfl, hr⟩
  · obtain rfl := e
    go_enter Try.func9, Try.ntmps9
    go_wp2_with (go_at_call 26; refine (Hid.out K1).mono ?_; intro e w' h; obtain ⟨n1, s1, F1, rfl, hr⟩ := FIN.out _ (fun _ _ h => .inr (.inl ⟨.inr rfl, h⟩)) _ _ h)
    go_ret
    exact ⟨n1, s1, F1, rfl, hr⟩
  · obtain rfl := e
    go_enter Try.func9, Try.ntmps9
    go_wp2_with (go_at_call 37; refine (Hid.out K3).mono ?_; intro e w' h; obtain ⟨n1, s1, F1, rfl, hr⟩ := FIN.out _ (fun _ _ h => .inr (.inr (.inl ⟨rfl, h⟩))) _ _ h)
    go_ret
    exact ⟨n1, s1, F1, rfl, hr⟩
  · obtain rfl := e
    go_enter Try.func9, Try.ntmps9
    go_wp2_with (go_at_call 38; refine (Hid.out K4).mono ?_; intro e w' h; obtain ⟨n1, s1, F1, rfl, hr⟩ := FIN.out _ (fun _ _ h => .inr (.inr (.inr (.inl ⟨rfl, by simpa [OpV.key] using h⟩)))) _ _ h)
    go_ret
    exact ⟨n1, s1, F1, rfl, hr⟩
  · obtain rfl := e
    go_enter Try.func9, Try.ntmps9
    go_wp2_with (go_at_call 39; refine (Hid.out K5).mono ?_; intro e w' h; obtain ⟨n1, s1, F1, rfl, hr⟩ := FIN.out _ (fun _ _ h => .inr (.inr (.inr (.inr (.inl ⟨rfl, h⟩))))) _ _ h)
    go_ret
    exact ⟨n1, s1, F1, rfl, hr⟩
  · obtain rfl := e
    go_enter Try.func9, Try.ntmps9
    go_wp2_with (go_at_call 25; refine (Hid.out K6).mono ?_; intro e w' h; obtain ⟨n1, s1, F1, rfl, hr⟩ := FIN.out _ (fun _ _ h => .inr (.inr (.inr (.inr (.inr (.inl ⟨rfl, h⟩)))))) _ _ h)
    go_ret
    exact ⟨n1, s1, F1, rfl, hr⟩
  · obtain rfl := e
    go_enter Try.func9, Try.ntmps9
    go_wp2_with (go_at_call 40; refine (Hid.out K7).mono ?_; rintro e w' ⟨rfl, hd, hk⟩)
    go_ret
    exact ⟨0, _, F, rfl, .inr (.inr (.inr (.inr (.inr (.inr (.inl ⟨rfl, rfl, rfl⟩)))))), hd, HK.out.trans hk (fun _ _ h => h), fun _ h => .inl h⟩
  · obtain rfl := e
    go_enter Try.func9, Try.ntmps9
    go_wp2_with (go_at_call 27; refine (Hid.out K8).mono ?_; rintro e w' ⟨rfl, ⟨F1, hd, hF⟩, hk⟩)
    go_ret
    refine ⟨0, _, F1, rfl, .inr (.inr (.inr (.inr (.inr (.inr (.inr (.inl ⟨rfl, rfl, rfl⟩))))))), hd, HK.out.trans hk (fun _ _ h => h), fun i h => ?_⟩
    rcases hF i h with h | h
    · exact .inl h
    · simp at h; exact .inr (by omega)
  · have b0 : (what == 0) = false := by simp; omega
    have b1 : (what == 1) = false := by simp; omega
    have b2 : (what == 2) = false := by simp; omega
    have b3 : (what == 3) = false := by simp; omega
    have b4 : (what == 4) = false := by simp; omega
    have b5 : (what == 5) = false := by simp; omega
    have b6 : (what == 6) = false := by simp; omega
    have b7 : (what == 7) = false := by simp; omega
    have b8 : (what == 8) = false := by simp; omega
    have E := Lib.hid e
    clear e
    go_enter Try.func9, Try.ntmps9
    go_wp2
    go_ret
    exact ⟨0, s, F, rfl, .inr (.inr (.inr (.inr (.inr (.inr (.inr (.inr ⟨E.out, rfl, rfl⟩))))))), D1.out, HK.out, fun _ h => .inl h⟩
end Go.Proofs.Ytblpppeppgfbpaa
