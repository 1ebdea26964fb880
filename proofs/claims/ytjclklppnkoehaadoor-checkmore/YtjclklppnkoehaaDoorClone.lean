/-
  slices.Clone at outputs, inputs and texts: the same cells, in memory of the call's own.
-/
import Derived.Test.YtjclklppnkoehaaDoorLeaf
import Derived.OwnWalk
import Derived.Lib.SliceRun
namespace Go.Proofs.YtjclklppnkoehaaDoor
open Go.RowKit
set_option maxRecDepth 100000

theorem info52 : (Tryd.prog.info? 48).map (fun i => (i.zero, i.size, i.bytes)) = some (some (.agg #[.int .i64 0, .string ⟨#[]⟩]), 2, 24) := by kernel_rfl
theorem info43 : (Tryd.prog.info? 46).map (fun i => (i.zero, i.size, i.bytes)) = some (some (.agg #[.string ⟨#[]⟩, .int .u32 0, .int .u32 0, .slice none 0 0]), 4, 56) := by kernel_rfl
theorem info9 : (Tryd.prog.info? 9).map (fun i => (i.zero, i.size, i.bytes)) = some (some (.string ⟨#[]⟩), 1, 16) := by kernel_rfl
theorem info3 : (Tryd.prog.info? 3).map (fun i => (i.zero, i.size, i.bytes)) = some (some (.int .i64 0), 1, 8) := by kernel_rfl

/-- What a copy of a slice of n elements, of 'size' cells each, is. -/
def Cloned (w : World) (A : Option Addr) (n size : Nat) (e : TypeId) (v' : Value) (w' : World) : Prop :=
  (n = 0 ∧ ∃ A' c', v' = .slice A' 0 c') ∨ ∃ b off g cap cur, A = some ⟨b, off, none⟩ ∧ v' = .slice (some ⟨g, 0, none⟩) n cap ∧ n ≤ cap ∧ w.heap.size ≤ g ∧ g < w'.heap.size ∧
    w'.heap[g]? = some (.cells cur e (0, 0)) ∧ cur.size = cap * size ∧ ∀ j, j < n * size → w'.cell? ⟨g, j, none⟩ = w.cell? ⟨b, off + j, none⟩

/-- The cells behind an address. -/
def cellsAt (w : World) (b off m : Nat) : List Value := (List.range m).map fun j => (w.cell? ⟨b, off + j, none⟩).getD undef
theorem cellsAt_get {w : World} {b off m j : Nat} {u : Value} (h : (cellsAt w b off m)[j]? = some u) : j < m ∧ u = (w.cell? ⟨b, off + j, none⟩).getD undef := by
  have hj : j < m := by
    have := (List.getElem?_eq_some_iff.1 h).1
    simpa [cellsAt] using this
  refine ⟨hj, ?_⟩
  simp [cellsAt, hj] at h
  exact h.symm

theorem cellsAt_cell {w : World} {b off m : Nat} (h : ∀ j, j < m → ∃ u, w.cell? ⟨b, off + j, none⟩ = some u ∧ u.oneCell' = true) (o : Obj) : ∀ j u, (cellsAt w b off m)[j]? = some u → (w.alloc o).cell? ((⟨b, off, none⟩ : Addr).add j) = some u := by
  intro j u hj
  obtain ⟨hj', rfl⟩ := cellsAt_get hj
  obtain ⟨u, hu, _⟩ := h j hj'
  rw [Addr.add_lit]
  exact Lib.cell?_alloc_some _ (by rw [hu]; rfl)
theorem cellsAt_one {w : World} {b off m : Nat} (h : ∀ j, j < m → ∃ u, w.cell? ⟨b, off + j, none⟩ = some u ∧ u.oneCell' = true) : ∀ u ∈ cellsAt w b off m, u.oneCell' = true := by
  intro u hu
  obtain ⟨j, hj⟩ := List.getElem?_of_mem hu
  obtain ⟨hj', rfl⟩ := cellsAt_get hj
  obtain ⟨u, hu, h1⟩ := h j hj'
  rw [hu]
  exact h1

theorem Cloned.of_own {w w' : World} {b off n size : Nat} {e : TypeId} {v' : Value} (hown : w'.ownsRow w.heap.size e size v' n (cellsAt w b off (n * size)))
    (hc : ∀ j, j < n * size → ∃ u, w.cell? ⟨b, off + j, none⟩ = some u) : Cloned w (some ⟨b, off, none⟩) n size e v' w' := by
  rcases hown.2 with ⟨rfl, h0⟩ | ⟨g, cap, cur, rfl, hb, hg, hn, hm, hs, ht⟩
  · exact .inl ⟨h0, none, 0, rfl⟩
  · refine .inr ⟨b, off, g, cap, cur, rfl, rfl, hn, hb, ?_, hg, hs, fun j hj => ?_⟩
    · rcases Nat.lt_or_ge g w'.heap.size with hlt | hge
      · exact hlt
      · rw [Array.getElem?_eq_none hge] at hg; cases hg
    · obtain ⟨u, hu⟩ := hc j hj
      have h1 := hown.cells (g := g) rfl j u (by simp [cellsAt, hj, hu])
      rw [hu, ← h1]
      simp [Addr.add]
      split <;> simp_all

set_option maxHeartbeats 1000000 in
theorem clone_out (A : Option Addr) (n c : Nat) (w : World) (hn : n ≤ 512) (hA : n = 0 ∨ ∃ b off, A = some ⟨b, off, none⟩ ∧ ∀ j, j < n * 2 → ∃ u, w.cell? ⟨b, off + j, none⟩ = some u ∧ u.oneCell' = true) :
    Calls Tryd.prog 40 #[.slice A n c] w fun e w' => ∃ v', e = .returned v' ∧ Cloned w A n 2 48 v' w' ∧ Below w.heap.size w w' := by
  obtain ⟨i0, hi, hz0, hz1, hz2⟩ := info_parts info52
  have q22 : ∀ (w : World) (a : Option Addr) (n c n' c' : Nat), (binOp .eql 24 (.slice a n c) (.slice none n' c')).run Tryd.prog w = .ok (.bool a.isNone) w := fun w a n c n' c' => Lib.run_eql_slice_nil w _ _ a n c n' c' Tryd.underlying24
  have HA := Lib.hid hA
  clear hA
  rcases A with _ | ⟨b, off, sub⟩
  · have h0 : n = 0 := by
      rcases HA.out with h | ⟨b, off, h, _⟩
      · exact h
      · cases h
    have H0 := Lib.hid h0
    clear h0
    go_enter Tryd.func40, Tryd.ntmps40
    go_wp2
    go_ret
    exact ⟨_, rfl, .inl ⟨H0.out, none, 0, rfl⟩, Below.refl _ _⟩
  · rcases Nat.eq_zero_or_pos n with h0 | h0
    · subst h0
      go_enter Tryd.func40, Tryd.ntmps40
      go_wp2_with (at_builtin; refine wpList_append_own _ rfl _ _ 24 rfl w.heap.size 48 i0 _ 2 24 Tryd.underlying24 hi hz0 hz1 hz2 rfl (by decide) _ _ _ rfl (World.ownsRow_made w #[] 0 (Nat.le_refl _) (Nat.zero_le _) (by simp)) ⟨b, off, sub⟩ 0 c [] rfl rfl (by intro j u hj; simp at hj) (by intro u hu; simp at hu) (by unfold maxLen; omega) (by omega) (by simp) ?_; intro v' w1 hown hgrow hnil)
      go_ret
      refine ⟨v', rfl, .inl ⟨rfl, ?_⟩, ((Below.refl _ w).alloc (Nat.le_refl _) _).grown hgrow (by simp) (fun k hk => by have h2 : some w.heap.size = some k := hk; injection h2 with h2; omega)⟩
      rcases hown.2 with ⟨rfl, _⟩ | ⟨g, cap, cur, rfl, _⟩
      · exact ⟨none, 0, rfl⟩
      · exact ⟨_, cap, rfl⟩
    · obtain ⟨b', off', hA', hcell⟩ : ∃ b' off', (some (⟨b, off, sub⟩ : Addr)) = some ⟨b', off', none⟩ ∧ ∀ j, j < n * 2 → ∃ u, w.cell? ⟨b', off' + j, none⟩ = some u ∧ u.oneCell' = true := by
        rcases HA.out with h | h
        · omega
        · exact h
      injection hA' with hA'
      injection hA' with e1 e2 e3
      subst e1 e2 e3
      have HC := Lib.hid hcell
      clear hcell HA
      go_enter Tryd.func40, Tryd.ntmps40
      go_wp2_with (at_builtin; refine wpList_append_own _ rfl _ _ 24 rfl w.heap.size 48 i0 _ 2 24 Tryd.underlying24 hi hz0 hz1 hz2 rfl (by decide) _ _ _ rfl (World.ownsRow_made w #[] 0 (Nat.le_refl _) (Nat.zero_le _) (by simp)) ⟨b, off, none⟩ n c (cellsAt w b off (n * 2)) rfl (by simp [cellsAt]) (cellsAt_cell HC.out _) (cellsAt_one HC.out) (by unfold maxLen; omega) (by omega) (by simp) ?_; intro v' w1 hown hgrow hnil)
      go_ret
      refine ⟨v', rfl, Cloned.of_own (by simpa using hown) (fun j hj => by obtain ⟨u, hu, _⟩ := HC.out j hj; exact ⟨u, hu⟩), ((Below.refl _ w).alloc (Nat.le_refl _) _).grown hgrow (by simp) (fun k hk => by have h2 : some w.heap.size = some k := hk; injection h2 with h2; omega)⟩

set_option maxHeartbeats 1000000 in
theorem clone_in (A : Option Addr) (n c : Nat) (w : World) (hn : n ≤ 512) (hA : n = 0 ∨ ∃ b off, A = some ⟨b, off, none⟩ ∧ ∀ j, j < n * 4 → ∃ u, w.cell? ⟨b, off + j, none⟩ = some u ∧ u.oneCell' = true) :
    Calls Tryd.prog 39 #[.slice A n c] w fun e w' => ∃ v', e = .returned v' ∧ Cloned w A n 4 46 v' w' ∧ Below w.heap.size w w' := by
  obtain ⟨i0, hi, hz0, hz1, hz2⟩ := info_parts info43
  have q22 : ∀ (w : World) (a : Option Addr) (n c n' c' : Nat), (binOp .eql 32 (.slice a n c) (.slice none n' c')).run Tryd.prog w = .ok (.bool a.isNone) w := fun w a n c n' c' => Lib.run_eql_slice_nil w _ _ a n c n' c' Tryd.underlying32
  have HA := Lib.hid hA
  clear hA
  rcases A with _ | ⟨b, off, sub⟩
  · have h0 : n = 0 := by
      rcases HA.out with h | ⟨b, off, h, _⟩
      · exact h
      · cases h
    have H0 := Lib.hid h0
    clear h0
    go_enter Tryd.func39, Tryd.ntmps39
    go_wp2
    go_ret
    exact ⟨_, rfl, .inl ⟨H0.out, none, 0, rfl⟩, Below.refl _ _⟩
  · rcases Nat.eq_zero_or_pos n with h0 | h0
    · subst h0
      go_enter Tryd.func39, Tryd.ntmps39
      go_wp2_with (at_builtin; refine wpList_append_own _ rfl _ _ 32 rfl w.heap.size 46 i0 _ 4 56 Tryd.underlying32 hi hz0 hz1 hz2 rfl (by decide) _ _ _ rfl (World.ownsRow_made w #[] 0 (Nat.le_refl _) (Nat.zero_le _) (by simp)) ⟨b, off, sub⟩ 0 c [] rfl rfl (by intro j u hj; simp at hj) (by intro u hu; simp at hu) (by unfold maxLen; omega) (by omega) (by simp) ?_; intro v' w1 hown hgrow hnil)
      go_ret
      refine ⟨v', rfl, .inl ⟨rfl, ?_⟩, ((Below.refl _ w).alloc (Nat.le_refl _) _).grown hgrow (by simp) (fun k hk => by have h2 : some w.heap.size = some k := hk; injection h2 with h2; omega)⟩
      rcases hown.2 with ⟨rfl, _⟩ | ⟨g, cap, cur, rfl, _⟩
      · exact ⟨none, 0, rfl⟩
      · exact ⟨_, cap, rfl⟩
    · obtain ⟨b', off', hA', hcell⟩ : ∃ b' off', (some (⟨b, off, sub⟩ : Addr)) = some ⟨b', off', none⟩ ∧ ∀ j, j < n * 4 → ∃ u, w.cell? ⟨b', off' + j, none⟩ = some u ∧ u.oneCell' = true := by
        rcases HA.out with h | h
        · omega
        · exact h
      injection hA' with hA'
      injection hA' with e1 e2 e3
      subst e1 e2 e3
      have HC := Lib.hid hcell
      clear hcell HA
      go_enter Tryd.func39, Tryd.ntmps39
      go_wp2_with (at_builtin; refine wpList_append_own _ rfl _ _ 32 rfl w.heap.size 46 i0 _ 4 56 Tryd.underlying32 hi hz0 hz1 hz2 rfl (by decide) _ _ _ rfl (World.ownsRow_made w #[] 0 (Nat.le_refl _) (Nat.zero_le _) (by simp)) ⟨b, off, none⟩ n c (cellsAt w b off (n * 4)) rfl (by simp [cellsAt]) (cellsAt_cell HC.out _) (cellsAt_one HC.out) (by unfold maxLen; omega) (by omega) (by simp) ?_; intro v' w1 hown hgrow hnil)
      go_ret
      refine ⟨v', rfl, Cloned.of_own (by simpa using hown) (fun j hj => by obtain ⟨u, hu, _⟩ := HC.out j hj; exact ⟨u, hu⟩), ((Below.refl _ w).alloc (Nat.le_refl _) _).grown hgrow (by simp) (fun k hk => by have h2 : some w.heap.size = some k := hk; injection h2 with h2; omega)⟩

set_option maxHeartbeats 1000000 in
theorem clone_str (A : Option Addr) (n c : Nat) (w : World) (hn : n ≤ 512) (hA : n = 0 ∨ ∃ b off, A = some ⟨b, off, none⟩ ∧ ∀ j, j < n * 1 → ∃ u, w.cell? ⟨b, off + j, none⟩ = some u ∧ u.oneCell' = true) :
    Calls Tryd.prog 41 #[.slice A n c] w fun e w' => ∃ v', e = .returned v' ∧ Cloned w A n 1 9 v' w' ∧ Below w.heap.size w w' := by
  obtain ⟨i0, hi, hz0, hz1, hz2⟩ := info_parts info9
  have q22 : ∀ (w : World) (a : Option Addr) (n c n' c' : Nat), (binOp .eql 44 (.slice a n c) (.slice none n' c')).run Tryd.prog w = .ok (.bool a.isNone) w := fun w a n c n' c' => Lib.run_eql_slice_nil w _ _ a n c n' c' Tryd.underlying44
  have HA := Lib.hid hA
  clear hA
  rcases A with _ | ⟨b, off, sub⟩
  · have h0 : n = 0 := by
      rcases HA.out with h | ⟨b, off, h, _⟩
      · exact h
      · cases h
    have H0 := Lib.hid h0
    clear h0
    go_enter Tryd.func41, Tryd.ntmps41
    go_wp2
    go_ret
    exact ⟨_, rfl, .inl ⟨H0.out, none, 0, rfl⟩, Below.refl _ _⟩
  · rcases Nat.eq_zero_or_pos n with h0 | h0
    · subst h0
      go_enter Tryd.func41, Tryd.ntmps41
      go_wp2_with (at_builtin; refine wpList_append_own _ rfl _ _ 44 rfl w.heap.size 9 i0 _ 1 16 Tryd.underlying44 hi hz0 hz1 hz2 rfl (by decide) _ _ _ rfl (World.ownsRow_made w #[] 0 (Nat.le_refl _) (Nat.zero_le _) (by simp)) ⟨b, off, sub⟩ 0 c [] rfl rfl (by intro j u hj; simp at hj) (by intro u hu; simp at hu) (by unfold maxLen; omega) (by omega) (by simp) ?_; intro v' w1 hown hgrow hnil)
      go_ret
      refine ⟨v', rfl, .inl ⟨rfl, ?_⟩, ((Below.refl _ w).alloc (Nat.le_refl _) _).grown hgrow (by simp) (fun k hk => by have h2 : some w.heap.size = some k := hk; injection h2 with h2; omega)⟩
      rcases hown.2 with ⟨rfl, _⟩ | ⟨g, cap, cur, rfl, _⟩
      · exact ⟨none, 0, rfl⟩
      · exact ⟨_, cap, rfl⟩
    · obtain ⟨b', off', hA', hcell⟩ : ∃ b' off', (some (⟨b, off, sub⟩ : Addr)) = some ⟨b', off', none⟩ ∧ ∀ j, j < n * 1 → ∃ u, w.cell? ⟨b', off' + j, none⟩ = some u ∧ u.oneCell' = true := by
        rcases HA.out with h | h
        · omega
        · exact h
      injection hA' with hA'
      injection hA' with e1 e2 e3
      subst e1 e2 e3
      have HC := Lib.hid hcell
      clear hcell HA
      go_enter Tryd.func41, Tryd.ntmps41
      go_wp2_with (at_builtin; refine wpList_append_own _ rfl _ _ 44 rfl w.heap.size 9 i0 _ 1 16 Tryd.underlying44 hi hz0 hz1 hz2 rfl (by decide) _ _ _ rfl (World.ownsRow_made w #[] 0 (Nat.le_refl _) (Nat.zero_le _) (by simp)) ⟨b, off, none⟩ n c (cellsAt w b off (n * 1)) rfl (by simp [cellsAt]) (cellsAt_cell HC.out _) (cellsAt_one HC.out) (by unfold maxLen; omega) (by omega) (by simp) ?_; intro v' w1 hown hgrow hnil)
      go_ret
      refine ⟨v', rfl, Cloned.of_own (by simpa using hown) (fun j hj => by obtain ⟨u, hu, _⟩ := HC.out j hj; exact ⟨u, hu⟩), ((Below.refl _ w).alloc (Nat.le_refl _) _).grown hgrow (by simp) (fun k hk => by have h2 : some w.heap.size = some k := hk; injection h2 with h2; omega)⟩

end Go.Proofs.YtjclklppnkoehaaDoor
