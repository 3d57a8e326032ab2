/- The program's disk: one file more, ahead of all calls. -/
import Derived.Test.YtblpppeppgfbpaaOfMath
namespace Go.Proofs.Ytblpppeppgfbpaa
open Go.RowKit Go.Maps Go.WideMaps

theorem step_mapUpdate_own {H : Type} {P : Program} (w : World) {ops : Array Oper} {o : Oper} {a : Act} {K' : Act → World → Prop} {Q : Exit → Act → World → Prop} {E : Prop}
    (hg : o.guard = none) (m x v : Operand) (t : TypeId) (hop : o.op = Op.mapUpdate t m x v)
    (k e : TypeId) (K : Keyed P k) (ht : P.underlying t = some (.map k e)) (R : Value → Option (DataW H × List MemPlace)) (b n : Nat) (D : DataW H)
    (hm : a.eval m = .map (some b)) (hown : w.ownsMap P k R b n D) (hn : n < maxLen) (key val : Value) (kl : Lit) (hx : a.eval x = key) (hv : a.eval v = val) (hkey : keyOf P k key = some kl)
    (d : DataW H) (ps : List MemPlace) (hval : R val = some (d, ps))
    (hK : ∀ w', w'.ownsMap P k R b (n + 1) (D.put kl d) → w.grownBy w' (some b) → K' (a.put o.dst undef) w') :
    if Region.wanted o (yielded ops a.tmps) = true then Oper.wp P o a w K' Q else E := by
  have hw : Region.wanted o (yielded ops a.tmps) = true := by simp [Region.wanted, hg]
  rw [if_pos hw]
  obtain ⟨w', hrun, r1, r2⟩ := hown.update K ht hn hkey hval
  unfold Oper.wp
  simp [execOp, hop, hm, hx, hv, hrun, Result.andThen]
  exact hK w' r1 r2
/-- With one file more, of bytes that all stay. -/
def St.ofFile (s : St) (k : Nm) (i : Nat) (d : Nm) : St := { s with ids := i :: s.ids, dat := upd s.dat i d, syn := upd s.syn i d.length, now := dput s.now k i, mid := true }
theorem IsDisk.ofFile {w w' : World} {F : Nat → Prop} {b : Nat} {s : St} {bn bo : Nat} {cv : Value} {cls : List Value} {fv : Nat → Value} (h : IsDisk w F b s bn bo cv cls fv) (hc : s.chs = [])
    (hb : ∀ j, F j → j ≠ bn → w'.heap[j]? = w.heap[j]?) {k : Nm} {i : Nat} {d : Nm} {v : Value} (hdir : dirAt w' bn (dput s.now k i)) (hl : (dput s.now k i).length ≤ 64) (hdl : d.length ≤ 262144)
    (hf : fileAt w' i v d d.length) (hi : w.heap.size ≤ i) (hv : ∀ g, v.ownBlock = some g → w.heap.size ≤ g) : IsDisk w' (Own F w w') b (s.ofFile k i d) bn bo cv cls (upd fv i v) := by
  have hil : i < w'.heap.size := hf.1.lt
  have hni : i ∉ s.ids := fun e => by have := h.lt i (h.fi i e); omega
  have old : ∀ j, j ∈ s.ids → j ≠ i := fun j hj e => hni (e ▸ hj)
  have fold : ∀ j, j ∈ s.ids → fileAt w' j (fv j) (s.dat j) (s.syn j) := fun j hj =>
    (h.files j hj).frame (hb j (h.fi j hj) ((h.files j hj).1.ne_map h.now)) fun g hg => hb g (h.fd j hj g hg) (fun e => own_map_ne (h.files j hj).2 h.now (by rw [hg, e]))
  exact {
    wf := ⟨fun p hp => by
        rcases mem_dput.1 hp with e | e
        · rw [e]; exact List.mem_cons_self
        · exact List.mem_cons_of_mem _ (h.wf.now_id p e.1),
      fun p hp => List.mem_cons_of_mem _ (h.wf.old_id p hp), (fun c hcc => by
        have : c ∈ s.chs := hcc
        rw [hc] at this
        cases this),
      fun j hj => by
        rcases List.mem_cons.1 hj with e | e
        · subst e
          simpa [St.ofFile, upd_same] using hdl
        · have hne := old j e
          simpa [St.ofFile, upd_other _ _ hne] using h.wf.fit j e,
      hl, h.wf.nold, h.wf.okc, (fun e => by cases e), h.wf.room, h.wf.fuse1, h.wf.fuse2⟩
    blk := h.blk.same (hb b h.fb (h.blk.ne_map h.now))
    now := hdir
    old := ownsMap_block h.old (hb bo h.fo (fun e => h.nob e.symm))
    nob := h.nob
    row := ownsRow_block h.row fun g hg => hb g (h.fc g hg) (fun e => own_map_ne h.row h.now (by rw [hg, e]))
    reps := fun j v c h1 h2 => by
      have h2' : s.chs[j]? = some c := h2
      rw [hc] at h2'
      simp at h2'
    files := fun j hj => by
      rcases List.mem_cons.1 hj with e | e
      · subst e
        simpa [St.ofFile, upd_same] using hf
      · have hne := old j e
        simpa [St.ofFile, upd_other _ _ hne] using fold j e
    apart := fun j hj m hm hjm g hg => by
      by_cases e1 : j = i
      · subst e1
        rw [upd_same] at hg
        have e2 : m ≠ j := fun e => hjm e.symm
        rw [upd_other _ _ e2]
        have hm' := (List.mem_cons.1 hm).resolve_left e2
        intro e
        have h1 := h.lt g (h.fd m hm' g e)
        have h2 := hv g hg
        omega
      · have hj' := (List.mem_cons.1 hj).resolve_left e1
        rw [upd_other _ _ e1] at hg
        by_cases e2 : m = i
        · subst e2
          rw [upd_same]
          intro e
          have h1 := h.lt g (h.fd j hj' g hg)
          have h2 := hv g e
          omega
        · rw [upd_other _ _ e2]
          exact h.apart j hj' m ((List.mem_cons.1 hm).resolve_left e2) hjm g hg
    fb := .inl h.fb
    fn := .inl h.fn
    fo := .inl h.fo
    fc := fun g hg => .inl (h.fc g hg)
    fi := fun j hj => by
      rcases List.mem_cons.1 hj with e | e
      · subst e; exact .inr ⟨hi, hil⟩
      · exact .inl (h.fi j e)
    fd := fun j hj g hg => by
      by_cases e1 : j = i
      · subst e1
        rw [upd_same] at hg
        exact .inr ⟨hv g hg, (hf.2.lt g hg).2⟩
      · rw [upd_other _ _ e1] at hg
        exact .inl (h.fd j ((List.mem_cons.1 hj).resolve_left e1) g hg)
    lt := fun j hj => by
      rcases hj with h1 | h1
      · have := h.lt j h1; omega
      · exact h1.2 }
theorem SOf.step {room : Nat} {l : List FlV} {k : Nat} {f : Nat → Nat} {s : St} (h : SOf room l k f s) {o : FlV} (ho : l[k]? = some o) {i : Nat} (hi : i ∉ s.ids) : SOf room l (k + 1) (upd f k i) (s.ofFile o.key i o.bs) := by
  have hk : upd f k i k = i := by simp [upd]
  have hlt : ∀ j, j < k → upd f k i j = f j := fun j hj => by unfold upd; rw [if_neg (by omega)]
  have hne : ∀ j, j < k → f j ≠ i := fun j hj e => hi (e ▸ h.ids j hj)
  refine ⟨h.room, ?_, h.old, h.chs, h.acts, h.fuse, h.down, fun j hj => ?_, fun a b ha hb e => ?_, fun j p hj hp => ?_⟩
  · show dput s.now o.key i = _
    have e1 : dmap (upd f k i) (ofDir l k) = s.now := by
      rw [h.now]
      exact dmap_congr fun p hp => hlt p.2 (ofDir_file l k p hp)
    rw [ofDir_succ ho, ← dput_dmap, e1, hk]
  · by_cases e : j = k
    · subst e; rw [hk]; exact List.mem_cons_self
    · rw [hlt j (by omega)]; exact List.mem_cons_of_mem _ (h.ids j (by omega))
  · by_cases e1 : a = k
    · by_cases e2 : b = k
      · omega
      · subst e1
        rw [hk, hlt b (by omega)] at e
        exact absurd e.symm (hne b (by omega))
    · by_cases e2 : b = k
      · subst e2
        rw [hk, hlt a (by omega)] at e
        exact absurd e (hne a (by omega))
      · rw [hlt a (by omega), hlt b (by omega)] at e
        exact h.inj a b (by omega) (by omega) e
  · show upd s.dat i o.bs (upd f k i j) = p.bs ∧ upd s.syn i o.bs.length (upd f k i j) = p.bs.length
    by_cases e : j = k
    · subst e
      rw [ho] at hp
      cases hp
      rw [hk]
      simp [upd]
    · have hj' : j < k := by omega
      rw [hlt j hj']
      unfold upd
      rw [if_neg (hne j hj'), if_neg (hne j hj')]
      exact h.dat j p hj' hp
end Go.Proofs.Ytblpppeppgfbpaa
