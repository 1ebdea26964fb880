/-
  What the walk of TxGrants leans on: a field by value, and append(nil, outs...) as a step of a region that draws.
-/
import Derived.Test.YtnljicongmknhaaPwalk
import Derived.Test.YtnljicongmknhaaSame
import Derived.Test.YtnljicongmknhaaMut
import Derived.Test.YtnljicongmknhaaGz
import Derived.Test.YtnljicongmknhaaCwalk
import Derived.Deep.RegionLawGrows
namespace Go.Proofs.Ytnljicongmknhaa
open Go.RowKit

theorem run_field26 (W : World) (a b c d : Value) : (Instr.field 26 (.agg #[a, b, c, d]) 2).run Try.prog W = .ok c W := by
  first | rfl | (simp [go_sem]; done) | kernel_rfl

/-- append(nil, x...) as one step of a region that draws. -/
theorem step_append_nil {P : Program} {ops : Array Oper} {o : Oper} {a : Act} {w : World} {K : Act → World → Prop} {Q : Exit → Act → World → Prop} {E : Prop}
    (hg : o.guard = none) (s x : Operand) (t : TypeId) (hop : o.op = Op.call { callee := Callee.builtin Builtin.append, args := #[s, x], argTypes := #[t, t] })
    (e : TypeId) (i : TypeInfo) (z : Value) (size bytes : Nat) (h1 : P.underlying t = some (.slice e)) (h2 : P.info? e = some i) (h3 : i.zero = some z) (h4 : i.size = size) (h5 : i.bytes = bytes) (h6 : z.cells.size = size) (h7 : 0 < size)
    (hs : a.eval s = .slice none 0 0)
    (ad : Addr) (m c : Nat) (news : List Value) (hx : a.eval x = .slice (some ad) m c) (hn : news.length = m * size) (hc : ∀ j u, news[j]? = some u → w.cell? (ad.add j) = some u) (h1c : ∀ u ∈ news, u.oneCell' = true)
    (b1 : 0 + m ≤ maxLen) (b2 : (0 + m) * bytes ≤ 140737488355328)
    (hK : ∀ v' w', w'.ownsRow w.heap.size e size v' (0 + m) ([] ++ news) → w.grownBy w' none → K (a.put o.dst v') w') :
    if Region.wanted o (yielded ops a.tmps) = true then Oper.wp P o a w K Q else E := by
  have hw : Region.wanted o (yielded ops a.tmps) = true := by simp [Region.wanted, hg]
  rw [if_pos hw]
  obtain ⟨v', w', hrun, r1, r2, _⟩ := run_append_own (P := P) w w.heap.size t o.type e i z size bytes h1 h2 h3 h4 h5 h6 h7 (.slice none 0 0) 0 [] (World.ownsRow_nil w _ e size) ad m c news hn hc h1c b1 b2 (Nat.le_refl _)
  unfold Oper.wp
  simp [execOp, hop, resolve, invoke, builtin, hs, hx, hrun, Result.andThen]
  exact hK v' w' r1 r2

/-- append(nil, outs...): a copy of the outputs. -/
theorem step_copy {ops : Array Oper} {o : Oper} {a : Act} {w : World} {K : Act → World → Prop} {Q : Exit → Act → World → Prop} {E : Prop}
    (hg : o.guard = none) (s x : Operand) (hop : o.op = Op.call { callee := Callee.builtin Builtin.append, args := #[s, x], argTypes := #[24, 24] }) (hs : a.eval s = .slice none 0 0)
    {B : Option Addr} {d : Nat} {ys : List OutD} (hx : a.eval x = .slice B ys.length d) {w1 : World} {lo : Nat} (ho : OutsOwn w1 lo w1.heap.size (.slice B ys.length d) ys) (hb : Below w1.heap.size w1 w) (hl : ys.length ≤ 512)
    (hK : ∀ A' c' w', Outs w' w.heap.size w'.heap.size (.slice A' ys.length c') ys → Below w.heap.size w w' → K (a.put o.dst (.slice A' ys.length c')) w') :
    if Region.wanted o (yielded ops a.tmps) = true then Oper.wp Try.prog o a w K Q else E := by
  obtain ⟨i0, hi, hz0, hz1, hz2⟩ := info_parts info52
  have hO : Outs w lo w1.heap.size (.slice B ys.length d) ys := ho.outs.keep (Kept.of_below hb (Nat.le_refl _))
  obtain ⟨_, ⟨hown, _⟩, _⟩ := ho
  rcases hown.2 with ⟨hv, h0⟩ | ⟨g, cap, cur, hv, _⟩
  · injection hv with e1 e2 e3
    have hw : Region.wanted o (yielded ops a.tmps) = true := by simp [Region.wanted, hg]
    rw [if_pos hw]
    have hrun := run_append_owned_none (P := Try.prog) (w := w) w.heap.size 24 o.type 52 i0 2 Try.underlying24 hi (.slice none 0 0) 0 [] (World.ownsRow_nil w _ 52 2)
    have hnil : ys = [] := List.eq_nil_of_length_eq_zero h0
    subst hnil e1 e3
    have hx' : a.eval x = .slice none 0 0 := hx
    unfold Oper.wp
    simp [execOp, hop, resolve, invoke, builtin, hs, hx', hrun, Result.andThen]
    exact hK none 0 w (Outs.nil _ _ _) (Below.refl _ _)
  · injection hv with e1 e2 e3
    subst e1 e3
    have hsrc := hO.source
    rcases hsrc with h0 | ⟨b, off, hA, hcell⟩
    · have hnil : ys = [] := List.eq_nil_of_length_eq_zero h0
      subst hnil
      refine step_append_nil hg s x 24 hop 52 i0 _ 2 24 Try.underlying24 hi hz0 hz1 hz2 rfl (by decide) hs ⟨g, 0, none⟩ 0 d [] hx rfl (by intro j u hj; simp at hj) (by intro u hu; simp at hu) (by unfold maxLen; omega) (by omega) fun v' w' hr hgr => ?_
      rcases hr.2 with ⟨rfl, _⟩ | ⟨g', cap', cur', rfl, _⟩
      · exact hK none 0 w' (Outs.nil _ _ _) ((Below.refl _ w).grown hgr (Nat.le_refl _) (fun k hk => by cases hk))
      · exact hK _ cap' w' ⟨_, _, rfl, Nat.zero_le _, .inl rfl⟩ ((Below.refl _ w).grown hgr (Nat.le_refl _) (fun k hk => by cases hk))
    · injection hA with hA
      injection hA with e1 e2
      subst e1 e2
      refine step_append_nil hg s x 24 hop 52 i0 _ 2 24 Try.underlying24 hi hz0 hz1 hz2 rfl (by decide) hs ⟨g, 0, none⟩ ys.length d (cellsAt w g 0 (ys.length * 2)) hx (by simp [cellsAt]) (cellsAt_here hcell) (cellsAt_one hcell) (by unfold maxLen; omega) (by omega) fun v' w' hr hgr => ?_
      have hcl : Cloned w (some ⟨g, 0, none⟩) ys.length 2 52 v' w' := Cloned.of_own (by simpa using hr) (fun j hj => by obtain ⟨u, hu, _⟩ := hcell j hj; exact ⟨u, hu⟩)
      have hco := hcl.outs hO
      obtain ⟨A', c', rfl⟩ := hco.form
      exact hK A' c' w' hco ((Below.refl _ w).grown hgr (Nat.le_refl _) (fun k hk => by cases hk))

end Go.Proofs.Ytnljicongmknhaa
