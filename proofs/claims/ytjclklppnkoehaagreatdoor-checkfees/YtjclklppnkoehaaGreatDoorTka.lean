/-
  A region that draws its order: an operation is taken first, its slot named.
  What the document fixes of a fee, run.
-/
import Derived.Deep.RegionHeld3
import Derived.Test.YtjclklppnkoehaaGreatDoorIsp
import Derived.Test.YtjclklppnkoehaaGreatDoorSpt
import Derived.Test.YtjclklppnkoehaaGreatDoorMad
import Derived.Test.YtjclklppnkoehaaGreatDoorRsg

namespace Go.Proofs.YtjclklppnkoehaaGreatDoor

theorem take_at {P : Program} {ops : Array Oper} {Q : Exit → Act → World → Prop} {md : Region.Mode} {S : World → Prop} {i d : Nat} {oi : Oper} {v : Value} {fuel : Nat} {listed : Array Bool} {a : Act} {w : World}
    (hi : ops[i]? = some oi) (hd : oi.dst = some d) (hs : Region.noSelect ops = true) (hf : Region.free md ops listed i = true) (hr : (Region.ready md ops listed).contains i = true)
    (hQ : ∀ c a w, Q (.panic c) (a.put (some d) v) w → Q (.panic c) a w) (hy : YieldsIf P ops S oi v a) (hS : S w)
    (h : wpAnyH P md ops Q S fuel (listed.setIfInBounds i true) (a.put (some d) v) w) : wpAnyH P md ops Q S (fuel + 1) listed a w :=
  wpAnyH_take (oi := oi) (v := v) hi hs hf hr (by rw [hd]; exact hQ) hy hS (by rw [hd]; exact h)

end Go.Proofs.YtjclklppnkoehaaGreatDoor

namespace Go.Proofs.YtjclklppnkoehaaGreatDoor
open Go.RowKit
set_option maxRecDepth 100000

theorem sg_sz (b t : Int) : (sgS b t).size = 3 := by
  unfold sgS
  rw [ByteArray.size_append, put_sz1, put_sz2]
/-- The transaction that wakes. -/
def wkT (id : ByteArray) : TxD := ⟨2, [⟨id, 0, 0, [sgS 0 1]⟩], [⟨3, ⟨#[]⟩⟩], 0⟩
theorem wk_ok {pid : ByteArray} (h : pid.size = 32) : (wkT pid).Ok := by
  have hx : InD.Ok ⟨pid, 0, 0, [sgS 0 1]⟩ := ⟨by show pid.size ≤ 64; omega, Int.le_refl 0, by show (0 : Int) ≤ 4294967295; omega, Int.le_refl 0, by show (0 : Int) ≤ 4294967295; omega, by show (1 : Nat) ≤ 8; omega, fun s hs => by rw [List.mem_singleton.1 hs, sg_sz]; omega⟩
  have ho : OutD.Ok ⟨3, ⟨#[]⟩⟩ := ⟨by show (-9223372036854775808 : Int) ≤ 3; omega, by show (3 : Int) ≤ 9223372036854775807; omega, Nat.zero_le _⟩
  exact ⟨by show (1 : Nat) ≤ 512; omega, by show (1 : Nat) ≤ 512; omega, fun x hx' => by rw [List.mem_singleton.1 hx']; exact hx, fun x hx' => by rw [List.mem_singleton.1 hx']; exact ho, by show (0 : Int) ≤ 2; omega, by show (2 : Int) ≤ 4294967295; omega, Int.le_refl 0, by show (0 : Int) ≤ 4294967295; omega⟩
theorem wk1 : feA [] (wkT (Co.idT 1 32)) 1 = ⟨0, 8, 0⟩ := by kernel_rfl
theorem wk2 : feA [⟨Co.idT 1 32, 0, 5, ptS [⟨1, 0, 0⟩], 0⟩] (wkT (Co.idT 1 32)) 1 = ⟨2, 0, -1⟩ := by kernel_rfl
theorem wk3 : Co.putE [] ⟨Co.idT 1 32, 0, 5, ptS [⟨1, 0, 0⟩], 0⟩ = 0 := by kernel_rfl
theorem wk4 : Co.putL [] ⟨Co.idT 1 32, 0, 5, ptS [⟨1, 0, 0⟩], 0⟩ = [⟨Co.idT 1 32, 0, 5, ptS [⟨1, 0, 0⟩], 0⟩] := by kernel_rfl
/-- .. in its box. -/
def WkMid (w3 : World) (id : ByteArray) (s3 : Value) (wx : World) : Prop :=
  ∃ g vi vo, s3 = .pointer (some ⟨g, 0, none⟩) ∧ w3.heap.size ≤ g ∧ g < wx.heap.size ∧ Boxed wx g (.int .u32 2) vi vo (.int .u32 0) ∧ TxAt wx w3.heap.size wx.heap.size vi vo (wkT id) ∧ Below w3.heap.size w3 wx

theorem lt_of_hp {w : World} {g : Nat} {o : Obj} (h : w.heap[g]? = some o) : g < w.heap.size := by
  rcases Nat.lt_or_ge g w.heap.size with h1 | h1
  · exact h1
  · rw [Array.getElem?_eq_none h1] at h; cases h
theorem box_cells {w : World} {g : Nat} {v0 v1 v2 v3 : Value} {t : TypeId} (h : w.heap[g]? = some (.cells #[v0, v1, v2, v3] t (0, 0))) : w.cell? ⟨g, 0, none⟩ = some v0 ∧ w.cell? ⟨g, 1, none⟩ = some v1 ∧ w.cell? ⟨g, 2, none⟩ = some v2 ∧ w.cell? ⟨g, 3, none⟩ = some v3 ∧ ∀ k, w.frozen? ⟨g, k, none⟩ = false :=
  ⟨Co.cell_in (o := 0) h rfl, Co.cell_in (o := 1) h rfl, Co.cell_in (o := 2) h rfl, Co.cell_in (o := 3) h rfl, fun k => Lib.frozen_of_heap h k⟩
theorem str_one {w4 V : World} {B : Nat} {u : Value} {s : ByteArray} (h : Strs w4 V.heap.size w4.heap.size u [s]) (hB : B ≤ V.heap.size) : ∃ (bS oS cS : Nat), u = .slice (some ⟨bS, oS, none⟩) 1 cS ∧ B ≤ bS ∧ w4.cell? ⟨bS, oS, none⟩ = some (.string s) ∧ 1 ≤ cS := by
  obtain ⟨A, c, rfl, hc, h⟩ := h
  rcases h with h | ⟨b, o, rfl, h1, h2, h⟩
  · cases h
  · exact ⟨b, o, c, rfl, by omega, h 0 s rfl, hc⟩
/-- The transaction's parts made, the box is filled. -/
theorem wk_leaf {w3 wx : World} {gA gI gO bS oS cS : Nat} {pid sg : ByteArray} (hH : Below w3.heap.size w3 wx) (hA : w3.heap.size ≤ gA) (FA : wx.heap[gA]? = some (.cells #[.int .u32 0, .slice none 0 0, .slice none 0 0, .int .u32 0] 34 (0, 0)))
    (hI : w3.heap.size ≤ gI) (FI : wx.heap[gI]? = some (.cells #[.string pid, .int .u32 0, .int .u32 0, .slice (some ⟨bS, oS, none⟩) 1 cS] 68 (0, 0))) (hO : w3.heap.size ≤ gO) (FO : wx.heap[gO]? = some (.cells #[.int .i64 3, .string ⟨#[]⟩] 59 (0, 0)))
    (hS : w3.heap.size ≤ bS) (fS : wx.cell? ⟨bS, oS, none⟩ = some (.string sg)) (hc : 1 ≤ cS) (hsg : sgS 0 1 = sg) :
    WkMid w3 pid (.pointer (some ⟨gA, 0, none⟩)) ((((wx.setCell ⟨gA, 0, none⟩ (.int .u32 2)).setCell ⟨gA, 1, none⟩ (.slice (some ⟨gI, 0, none⟩) 1 1)).setCell ⟨gA, 2, none⟩ (.slice (some ⟨gO, 0, none⟩) 1 1)).setCell ⟨gA, 3, none⟩ (.int .u32 0)) := by
  subst hsg
  have lA := lt_of_hp FA
  have lI := lt_of_hp FI
  have lO := lt_of_hp FO
  have lS := lt_of_cell fS
  have nI : gI ≠ gA := fun e => by rw [e, FA] at FI; injection FI with h; injection h with _ h; exact absurd h (by decide)
  have nO : gO ≠ gA := fun e => by rw [e, FA] at FO; injection FO with h; injection h with _ h; exact absurd h (by decide)
  have nS : bS ≠ gA := fun e => by
    subst e
    have hc := Co.cell_of_block FA oS
    rw [fS] at hc
    match oS, hc with
    | 0, h => simp at h
    | 1, h => simp at h
    | 2, h => simp at h
    | 3, h => simp at h
    | k + 4, h => simp at h
  have hB := (((hH.setCell (p := ⟨gA, 0, none⟩) hA (.int .u32 2)).setCell (p := ⟨gA, 1, none⟩) hA (.slice (some ⟨gI, 0, none⟩) 1 1)).setCell (p := ⟨gA, 2, none⟩) hA (.slice (some ⟨gO, 0, none⟩) 1 1)).setCell (p := ⟨gA, 3, none⟩) hA (.int .u32 0)
  have hT : ((((wx.setCell ⟨gA, 0, none⟩ (.int .u32 2)).setCell ⟨gA, 1, none⟩ (.slice (some ⟨gI, 0, none⟩) 1 1)).setCell ⟨gA, 2, none⟩ (.slice (some ⟨gO, 0, none⟩) 1 1)).setCell ⟨gA, 3, none⟩ (.int .u32 0)).heap[gA]? = some (.cells #[.int .u32 2, .slice (some ⟨gI, 0, none⟩) 1 1, .slice (some ⟨gO, 0, none⟩) 1 1, .int .u32 0] 34 (0, 0)) := by
    simp [World.setCell, Array.getElem?_modify, FA]
  have hk : ∀ k, k ≠ gA → ((((wx.setCell ⟨gA, 0, none⟩ (.int .u32 2)).setCell ⟨gA, 1, none⟩ (.slice (some ⟨gI, 0, none⟩) 1 1)).setCell ⟨gA, 2, none⟩ (.slice (some ⟨gO, 0, none⟩) 1 1)).setCell ⟨gA, 3, none⟩ (.int .u32 0)).heap[k]? = wx.heap[k]? := fun k hn =>
    (Below.heap_setCell _ _ _ _ hn).trans ((Below.heap_setCell _ _ _ _ hn).trans ((Below.heap_setCell _ _ _ _ hn).trans (Below.heap_setCell _ _ _ _ hn)))
  have hz : ((((wx.setCell ⟨gA, 0, none⟩ (.int .u32 2)).setCell ⟨gA, 1, none⟩ (.slice (some ⟨gI, 0, none⟩) 1 1)).setCell ⟨gA, 2, none⟩ (.slice (some ⟨gO, 0, none⟩) 1 1)).setCell ⟨gA, 3, none⟩ (.int .u32 0)).heap.size = wx.heap.size := by simp
  generalize ((((wx.setCell ⟨gA, 0, none⟩ (.int .u32 2)).setCell ⟨gA, 1, none⟩ (.slice (some ⟨gI, 0, none⟩) 1 1)).setCell ⟨gA, 2, none⟩ (.slice (some ⟨gO, 0, none⟩) 1 1)).setCell ⟨gA, 3, none⟩ (.int .u32 0)) = W at *
  have hI' := (hk gI nI).trans FI
  have hO' := (hk gO nO).trans FO
  have hS' := (World.cell?_of_block (w := wx) (a := ⟨bS, oS, none⟩) (hk bS nS)).trans fS
  refine ⟨gA, _, _, rfl, hA, by omega, ⟨Co.cell_in (o := 0) hT rfl, Co.cell_in (o := 1) hT rfl, Co.cell_in (o := 2) hT rfl, Co.cell_in (o := 3) hT rfl⟩, ⟨⟨_, 1, rfl, Nat.le_refl _, .inr ⟨gI, 0, rfl, hI, by omega, fun k y hy => ?_⟩⟩, ⟨_, 1, rfl, Nat.le_refl _, .inr ⟨gO, 0, rfl, hO, by omega, fun k y hy => ?_⟩⟩⟩, hB⟩
  · have hk0 : k = 0 := by have := (List.getElem?_eq_some_iff.1 hy).1; simp [wkT] at this; omega
    subst hk0
    simp [wkT] at hy
    subst hy
    refine ⟨Co.cell_in (o := 0) hI' rfl, Co.cell_in (o := 1) hI' rfl, Co.cell_in (o := 2) hI' rfl, _, Co.cell_in (o := 3) hI' rfl, ⟨_, cS, rfl, hc, .inr ⟨bS, oS, rfl, hS, by omega, fun j s hs => ?_⟩⟩⟩
    have hj0 : j = 0 := by have := (List.getElem?_eq_some_iff.1 hs).1; simp at this; omega
    subst hj0
    simp at hs
    subst hs
    exact hS'
  · have hk0 : k = 0 := by have := (List.getElem?_eq_some_iff.1 hy).1; simp [wkT] at this; omega
    subst hk0
    simp [wkT] at hy
    subst hy
    exact ⟨Co.cell_in (o := 0) hO' rfl, Co.cell_in (o := 1) hO' rfl⟩

set_option maxHeartbeats 4000000 in
theorem wakes_any (w : World) (hd : ErrDoor w) : Calls Tryz.prog 11 #[] w fun e w' => e = .returned (.bool true) ∧ Below w.heap.size w w' := by
  have CN := Lib.hid (Co.new_any w)
  have CI := Lib.hid (fun V => Co.id_det 1 V)
  have IS := Lib.hid (Co.idT_size 1 32)
  obtain ⟨pid, hpid⟩ : ∃ s, Co.idT 1 32 = s := ⟨_, rfl⟩
  rw [hpid] at CI IS
  have HP := Lib.hid hpid
  have SG := Lib.hid (fun V => rsign_any 0 1 V (by decide) (by decide))
  obtain ⟨sg, hsg⟩ : ∃ s, sgS 0 1 = s := ⟨_, rfl⟩
  rw [hsg] at SG
  have HSG := Lib.hid hsg
  clear hpid hsg
  go_enter Tryz.func11, Tryz.ntmps11
  go_wp2_with fail
  refine CN.out.mono ?_
  rintro e w1 ⟨rfl, hs1, hb1, hz1⟩
  have S1 := Lib.hid hs1
  have B1 := Lib.hid hb1
  clear hs1 hb1 CN
  go_wp2_with fail
  refine (CI.out w1).mono ?_
  rintro e w2 ⟨rfl, hb2⟩
  have B2 := Lib.hid hb2
  have z2 := hb2.size
  clear hb2 CI
  obtain ⟨w3, hw3⟩ : ∃ w3, w3 = w2.alloc (.cells #[.string pid, .int .u32 0] 55) := ⟨_, rfl⟩
  have z3 : w3.heap.size = w2.heap.size + 1 := by rw [hw3]; simp
  have p0 : w3.cell? ⟨w2.heap.size, 0, none⟩ = some (.string pid) := by rw [hw3]; simp
  have p1 : w3.cell? ⟨w2.heap.size, 1, none⟩ = some (.int .u32 0) := by rw [hw3]; simp
  have B3 := Lib.hid (show Below w2.heap.size w2 w3 from by rw [hw3]; exact (Below.refl _ _).alloc (Nat.le_refl _) _)
  have HW3 := Lib.hid hw3
  have Z3 := Lib.hid z3
  have n3 : ¬ w3.heap.size = w2.heap.size := by omega
  have n3a : ¬ w3.heap.size + 1 = w2.heap.size := by omega
  have n3b : ¬ w3.heap.size + 1 + 1 = w2.heap.size := by omega
  have n3c : ¬ w3.heap.size + 2 = w2.heap.size := by omega
  clear hw3
  go_upto_region 3 with (fail)
  rw [show World.alloc w2 _ = w3 from HW3.out.symm]
  clear z3
  go_cut [3] (fun s3 wx => WkMid w3 pid s3 wx)
  case first =>
    have PC := Lib.hid (fun V (hV : Below w3.heap.size w3 V) => And.intro ((hV.cell (p := ⟨w2.heap.size, 0, none⟩) (by have := Z3.out; show w2.heap.size < _; omega)).trans p0) ((hV.cell (p := ⟨w2.heap.size, 1, none⟩) (by have := Z3.out; show w2.heap.size < _; omega)).trans p1))
    clear p0 p1 n3 n3a n3b n3c
    refine wp_region_held_drew (S := fun w' => Below w3.heap.size w3 w') (by kernel_rfl) ?_ (fun hHeld => ?_)
    · exact (Below.refl _ _).drew
    obtain ⟨u0, hu0⟩ : ∃ u0, u0 = w3.drew := ⟨_, rfl⟩
    rw [← hu0] at hHeld ⊢
    clear hu0
    refine take_at (i := 0) (d := 16) (v := ?vq1) rfl rfl (by kernel_rfl) (by kernel_rfl) (by kernel_rfl) (fun _ _ _ h => h) (Or.inl ⟨by rfl, ?yq1⟩) hHeld ?rq1
    case yq1 => (intro w hSw; obtain ⟨l0, l1⟩ := PC.out w hSw; go_simp; try with_reducible rfl)
    simp only [Act.put, List.setIfInBounds_toArray, List.set_cons_zero, List.set_cons_succ]
    refine take_at (i := 4) (d := 20) (v := ?vq2) rfl rfl (by kernel_rfl) (by kernel_rfl) (by kernel_rfl) (fun _ _ _ h => h) (Or.inl ⟨by rfl, ?yq2⟩) hHeld ?rq2
    case yq2 => (intro w hSw; go_simp; try with_reducible rfl)
    simp only [Act.put, List.setIfInBounds_toArray, List.set_cons_zero, List.set_cons_succ]
    refine wpAnyH_ready (rs := [1, 5, 7]) (by kernel_rfl) (by simp) ?_
    refine AllReadyH.cons rfl (fun K hK => ?_) ?_
    · go_simp
      go_at_call 18
      refine (SG.out u0).mono ?_
      rintro e u1 ⟨vS, rfl, hst, hB⟩
      obtain ⟨bS, oS, cS, rfl, gS, fS, hcS⟩ := str_one hst hHeld.size
      have GS := Lib.hid gS
      have fS := Lib.hid fS
      have hcS := Lib.hid hcS
      clear gS hst
      refine hK.out _ _ (below_next hHeld hHeld.size hB) (fun hHeld => ?_)
      clear hK K hB
      try simp only [Act.put, List.setIfInBounds_toArray, List.set_cons_zero, List.set_cons_succ]
      refine take_at (i := 2) (d := 18) (v := ?vq3) rfl rfl (by kernel_rfl) (by kernel_rfl) (by kernel_rfl) (fun _ _ _ h => h) (Or.inl ⟨by rfl, ?yq3⟩) hHeld ?rq3
      case yq3 => (intro w hSw; go_simp; try with_reducible rfl)
      simp only [Act.put, List.setIfInBounds_toArray, List.set_cons_zero, List.set_cons_succ]
      refine wpAnyH_ready (rs := [3, 5, 7]) (by kernel_rfl) (by simp) ?_
      refine AllReadyH.cons rfl (fun K hK => ?_) ?_
      · go_simp
        refine hK.out _ _ (hHeld.alloc hHeld.size _) (fun hHeld2 => ?_)
        obtain ⟨u2, hI⟩ : ∃ u, u = World.alloc u1 (.cells #[.string pid, .int .u32 0, .int .u32 0, .slice (some ⟨bS, oS, none⟩) 1 cS] 68) := ⟨_, rfl⟩
        obtain ⟨gI, hgI⟩ : ∃ g, g = u1.heap.size := ⟨_, rfl⟩
        have GI := Lib.hid (show w3.heap.size ≤ gI from by rw [hgI]; exact hHeld.size)
        have FI := Lib.hid (show u2.heap[gI]? = some (.cells #[.string pid, .int .u32 0, .int .u32 0, .slice (some ⟨bS, oS, none⟩) 1 cS] 68 (0, 0)) from by rw [hI, hgI]; exact heap_alloc_new _ _)
        have fS := Lib.hid (show u2.cell? ⟨bS, oS, none⟩ = some (.string sg) from by rw [hI]; exact (World.cell?_alloc_lt _ _ _ (lt_of_cell fS.out)).trans fS.out)
        rw [← hI] at hHeld2 ⊢
        rw [← hgI]
        clear hK K hHeld hI hgI
        have hHeld := hHeld2
        clear hHeld2
        try simp only [Act.put, List.setIfInBounds_toArray, List.set_cons_zero, List.set_cons_succ]
        refine wpAnyH_ready (rs := [5, 7]) (by kernel_rfl) (by simp) ?_
        refine AllReadyH.cons rfl (fun K hK => ?_) ?_
        · go_simp
          refine hK.out _ _ (hHeld.alloc hHeld.size _) (fun hHeld2 => ?_)
          obtain ⟨u3, hO⟩ : ∃ u, u = World.alloc u2 (.cells #[.int .i64 3, .string ⟨#[]⟩] 59) := ⟨_, rfl⟩
          obtain ⟨gO, hgO⟩ : ∃ g, g = u2.heap.size := ⟨_, rfl⟩
          have GO := Lib.hid (show w3.heap.size ≤ gO from by rw [hgO]; exact hHeld.size)
          have FO := Lib.hid (show u3.heap[gO]? = some (.cells #[.int .i64 3, .string ⟨#[]⟩] 59 (0, 0)) from by rw [hO, hgO]; exact heap_alloc_new _ _)
          have fS := Lib.hid (show u3.cell? ⟨bS, oS, none⟩ = some (.string sg) from by rw [hO]; exact (World.cell?_alloc_lt _ _ _ (lt_of_cell fS.out)).trans fS.out)
          have FI := Lib.hid (show u3.heap[gI]? = some (.cells #[.string pid, .int .u32 0, .int .u32 0, .slice (some ⟨bS, oS, none⟩) 1 cS] 68 (0, 0)) from by rw [hO]; exact (Below.heap_alloc _ _ _ (lt_of_hp FI.out)).trans FI.out)
          rw [← hO] at hHeld2 ⊢
          rw [← hgO]
          clear hK K hHeld hO hgO
          have hHeld := hHeld2
          clear hHeld2
          try simp only [Act.put, List.setIfInBounds_toArray, List.set_cons_zero, List.set_cons_succ]
          refine take_at (i := 6) (d := 22) (v := ?vq4) rfl rfl (by kernel_rfl) (by kernel_rfl) (by kernel_rfl) (fun _ _ _ h => h) (Or.inl ⟨by rfl, ?yq4⟩) hHeld ?rq4
          case yq4 => (intro w hSw; go_simp; try with_reducible rfl)
          simp only [Act.put, List.setIfInBounds_toArray, List.set_cons_zero, List.set_cons_succ]
          refine wpAnyH_ready (rs := [7]) (by kernel_rfl) (by simp) ?_
          refine AllReadyH.cons rfl (fun K hK => ?_) ?_
          · go_simp
            refine hK.out _ _ (hHeld.alloc hHeld.size _) (fun hHeld2 => ?_)
            obtain ⟨u4, hA⟩ : ∃ u, u = World.alloc u3 (.cells #[.int .u32 0, .slice none 0 0, .slice none 0 0, .int .u32 0] 34) := ⟨_, rfl⟩
            obtain ⟨gA, hgA⟩ : ∃ g, g = u3.heap.size := ⟨_, rfl⟩
            have GA := Lib.hid (show w3.heap.size ≤ gA from by rw [hgA]; exact hHeld.size)
            have FA := Lib.hid (show u4.heap[gA]? = some (.cells #[.int .u32 0, .slice none 0 0, .slice none 0 0, .int .u32 0] 34 (0, 0)) from by rw [hA, hgA]; exact heap_alloc_new _ _)
            have fS := Lib.hid (show u4.cell? ⟨bS, oS, none⟩ = some (.string sg) from by rw [hA]; exact (World.cell?_alloc_lt _ _ _ (lt_of_cell fS.out)).trans fS.out)
            have FI := Lib.hid (show u4.heap[gI]? = some (.cells #[.string pid, .int .u32 0, .int .u32 0, .slice (some ⟨bS, oS, none⟩) 1 cS] 68 (0, 0)) from by rw [hA]; exact (Below.heap_alloc _ _ _ (lt_of_hp FI.out)).trans FI.out)
            have FO := Lib.hid (show u4.heap[gO]? = some (.cells #[.int .i64 3, .string ⟨#[]⟩] 59 (0, 0)) from by rw [hA]; exact (Below.heap_alloc _ _ _ (lt_of_hp FO.out)).trans FO.out)
            rw [← hA] at hHeld2 ⊢
            rw [← hgA]
            clear hK K hHeld hA hgA
            have hHeld := hHeld2
            clear hHeld2
            try simp only [Act.put, List.setIfInBounds_toArray, List.set_cons_zero, List.set_cons_succ]
            refine wpAnyH_ready (rs := [8]) (by kernel_rfl) (by simp) ?_
            refine AllReadyH.cons rfl (fun K hK => ?_) ?_
            · obtain ⟨ta0, ta1, ta2, ta3, taf⟩ := box_cells FA.out
              have LF := Lib.hid (wk_leaf hHeld GA.out FA.out GI.out FI.out GO.out FO.out GS.out fS.out hcS.out HSG.out)
              go_simp
              refine hK.out _ _ ((((hHeld.setCell GA.out _).setCell GA.out _).setCell GA.out _).setCell GA.out _) (fun hHeld => ?_)
              clear hK K hHeld ta0 ta1 ta2 ta3 taf
              try simp only [Act.put, List.setIfInBounds_toArray, List.set_cons_zero, List.set_cons_succ]
              refine wpAnyH_done (by kernel_rfl) ?_ _
              go_wp2_with fail
              go_meet
              exact LF.out
            exact AllReadyH.nil
          exact AllReadyH.nil
        refine AllReadyH.cons rfl (fun K hK => ?_) ?_
        · go_simp
          refine hK.out _ _ (hHeld.alloc hHeld.size _) (fun hHeld2 => ?_)
          obtain ⟨u3, hA⟩ : ∃ u, u = World.alloc u2 (.cells #[.int .u32 0, .slice none 0 0, .slice none 0 0, .int .u32 0] 34) := ⟨_, rfl⟩
          obtain ⟨gA, hgA⟩ : ∃ g, g = u2.heap.size := ⟨_, rfl⟩
          have GA := Lib.hid (show w3.heap.size ≤ gA from by rw [hgA]; exact hHeld.size)
          have FA := Lib.hid (show u3.heap[gA]? = some (.cells #[.int .u32 0, .slice none 0 0, .slice none 0 0, .int .u32 0] 34 (0, 0)) from by rw [hA, hgA]; exact heap_alloc_new _ _)
          have fS := Lib.hid (show u3.cell? ⟨bS, oS, none⟩ = some (.string sg) from by rw [hA]; exact (World.cell?_alloc_lt _ _ _ (lt_of_cell fS.out)).trans fS.out)
          have FI := Lib.hid (show u3.heap[gI]? = some (.cells #[.string pid, .int .u32 0, .int .u32 0, .slice (some ⟨bS, oS, none⟩) 1 cS] 68 (0, 0)) from by rw [hA]; exact (Below.heap_alloc _ _ _ (lt_of_hp FI.out)).trans FI.out)
          rw [← hA] at hHeld2 ⊢
          rw [← hgA]
          clear hK K hHeld hA hgA
          have hHeld := hHeld2
          clear hHeld2
          try simp only [Act.put, List.setIfInBounds_toArray, List.set_cons_zero, List.set_cons_succ]
          refine wpAnyH_ready (rs := [5]) (by kernel_rfl) (by simp) ?_
          refine AllReadyH.cons rfl (fun K hK => ?_) ?_
          · go_simp
            refine hK.out _ _ (hHeld.alloc hHeld.size _) (fun hHeld2 => ?_)
            obtain ⟨u4, hO⟩ : ∃ u, u = World.alloc u3 (.cells #[.int .i64 3, .string ⟨#[]⟩] 59) := ⟨_, rfl⟩
            obtain ⟨gO, hgO⟩ : ∃ g, g = u3.heap.size := ⟨_, rfl⟩
            have GO := Lib.hid (show w3.heap.size ≤ gO from by rw [hgO]; exact hHeld.size)
            have FO := Lib.hid (show u4.heap[gO]? = some (.cells #[.int .i64 3, .string ⟨#[]⟩] 59 (0, 0)) from by rw [hO, hgO]; exact heap_alloc_new _ _)
            have fS := Lib.hid (show u4.cell? ⟨bS, oS, none⟩ = some (.string sg) from by rw [hO]; exact (World.cell?_alloc_lt _ _ _ (lt_of_cell fS.out)).trans fS.out)
            have FI := Lib.hid (show u4.heap[gI]? = some (.cells #[.string pid, .int .u32 0, .int .u32 0, .slice (some ⟨bS, oS, none⟩) 1 cS] 68 (0, 0)) from by rw [hO]; exact (Below.heap_alloc _ _ _ (lt_of_hp FI.out)).trans FI.out)
            have FA := Lib.hid (show u4.heap[gA]? = some (.cells #[.int .u32 0, .slice none 0 0, .slice none 0 0, .int .u32 0] 34 (0, 0)) from by rw [hO]; exact (Below.heap_alloc _ _ _ (lt_of_hp FA.out)).trans FA.out)
            rw [← hO] at hHeld2 ⊢
            rw [← hgO]
            clear hK K hHeld hO hgO
            have hHeld := hHeld2
            clear hHeld2
            try simp only [Act.put, List.setIfInBounds_toArray, List.set_cons_zero, List.set_cons_succ]
            refine take_at (i := 6) (d := 22) (v := ?vq5) rfl rfl (by kernel_rfl) (by kernel_rfl) (by kernel_rfl) (fun _ _ _ h => h) (Or.inl ⟨by rfl, ?yq5⟩) hHeld ?rq5
            case yq5 => (intro w hSw; go_simp; try with_reducible rfl)
            simp only [Act.put, List.setIfInBounds_toArray, List.set_cons_zero, List.set_cons_succ]
            refine wpAnyH_ready (rs := [8]) (by kernel_rfl) (by simp) ?_
            refine AllReadyH.cons rfl (fun K hK => ?_) ?_
            · obtain ⟨ta0, ta1, ta2, ta3, taf⟩ := box_cells FA.out
              have LF := Lib.hid (wk_leaf hHeld GA.out FA.out GI.out FI.out GO.out FO.out GS.out fS.out hcS.out HSG.out)
              go_simp
              refine hK.out _ _ ((((hHeld.setCell GA.out _).setCell GA.out _).setCell GA.out _).setCell GA.out _) (fun hHeld => ?_)
              clear hK K hHeld ta0 ta1 ta2 ta3 taf
              try simp only [Act.put, List.setIfInBounds_toArray, List.set_cons_zero, List.set_cons_succ]
              refine wpAnyH_done (by kernel_rfl) ?_ _
              go_wp2_with fail
              go_meet
              exact LF.out
            exact AllReadyH.nil
          exact AllReadyH.nil
        exact AllReadyH.nil
      refine AllReadyH.cons rfl (fun K hK => ?_) ?_
      · go_simp
        refine hK.out _ _ (hHeld.alloc hHeld.size _) (fun hHeld2 => ?_)
        obtain ⟨u2, hO⟩ : ∃ u, u = World.alloc u1 (.cells #[.int .i64 3, .string ⟨#[]⟩] 59) := ⟨_, rfl⟩
        obtain ⟨gO, hgO⟩ : ∃ g, g = u1.heap.size := ⟨_, rfl⟩
        have GO := Lib.hid (show w3.heap.size ≤ gO from by rw [hgO]; exact hHeld.size)
        have FO := Lib.hid (show u2.heap[gO]? = some (.cells #[.int .i64 3, .string ⟨#[]⟩] 59 (0, 0)) from by rw [hO, hgO]; exact heap_alloc_new _ _)
        have fS := Lib.hid (show u2.cell? ⟨bS, oS, none⟩ = some (.string sg) from by rw [hO]; exact (World.cell?_alloc_lt _ _ _ (lt_of_cell fS.out)).trans fS.out)
        rw [← hO] at hHeld2 ⊢
        rw [← hgO]
        clear hK K hHeld hO hgO
        have hHeld := hHeld2
        clear hHeld2
        try simp only [Act.put, List.setIfInBounds_toArray, List.set_cons_zero, List.set_cons_succ]
        refine wpAnyH_ready (rs := [3, 7]) (by kernel_rfl) (by simp) ?_
        refine AllReadyH.cons rfl (fun K hK => ?_) ?_
        · go_simp
          refine hK.out _ _ (hHeld.alloc hHeld.size _) (fun hHeld2 => ?_)
          obtain ⟨u3, hI⟩ : ∃ u, u = World.alloc u2 (.cells #[.string pid, .int .u32 0, .int .u32 0, .slice (some ⟨bS, oS, none⟩) 1 cS] 68) := ⟨_, rfl⟩
          obtain ⟨gI, hgI⟩ : ∃ g, g = u2.heap.size := ⟨_, rfl⟩
          have GI := Lib.hid (show w3.heap.size ≤ gI from by rw [hgI]; exact hHeld.size)
          have FI := Lib.hid (show u3.heap[gI]? = some (.cells #[.string pid, .int .u32 0, .int .u32 0, .slice (some ⟨bS, oS, none⟩) 1 cS] 68 (0, 0)) from by rw [hI, hgI]; exact heap_alloc_new _ _)
          have fS := Lib.hid (show u3.cell? ⟨bS, oS, none⟩ = some (.string sg) from by rw [hI]; exact (World.cell?_alloc_lt _ _ _ (lt_of_cell fS.out)).trans fS.out)
          have FO := Lib.hid (show u3.heap[gO]? = some (.cells #[.int .i64 3, .string ⟨#[]⟩] 59 (0, 0)) from by rw [hI]; exact (Below.heap_alloc _ _ _ (lt_of_hp FO.out)).trans FO.out)
          rw [← hI] at hHeld2 ⊢
          rw [← hgI]
          clear hK K hHeld hI hgI
          have hHeld := hHeld2
          clear hHeld2
          try simp only [Act.put, List.setIfInBounds_toArray, List.set_cons_zero, List.set_cons_succ]
          refine take_at (i := 6) (d := 22) (v := ?vq6) rfl rfl (by kernel_rfl) (by kernel_rfl) (by kernel_rfl) (fun _ _ _ h => h) (Or.inl ⟨by rfl, ?yq6⟩) hHeld ?rq6
          case yq6 => (intro w hSw; go_simp; try with_reducible rfl)
          simp only [Act.put, List.setIfInBounds_toArray, List.set_cons_zero, List.set_cons_succ]
          refine wpAnyH_ready (rs := [7]) (by kernel_rfl) (by simp) ?_
          refine AllReadyH.cons rfl (fun K hK => ?_) ?_
          · go_simp
            refine hK.out _ _ (hHeld.alloc hHeld.size _) (fun hHeld2 => ?_)
            obtain ⟨u4, hA⟩ : ∃ u, u = World.alloc u3 (.cells #[.int .u32 0, .slice none 0 0, .slice none 0 0, .int .u32 0] 34) := ⟨_, rfl⟩
            obtain ⟨gA, hgA⟩ : ∃ g, g = u3.heap.size := ⟨_, rfl⟩
            have GA := Lib.hid (show w3.heap.size ≤ gA from by rw [hgA]; exact hHeld.size)
            have FA := Lib.hid (show u4.heap[gA]? = some (.cells #[.int .u32 0, .slice none 0 0, .slice none 0 0, .int .u32 0] 34 (0, 0)) from by rw [hA, hgA]; exact heap_alloc_new _ _)
            have fS := Lib.hid (show u4.cell? ⟨bS, oS, none⟩ = some (.string sg) from by rw [hA]; exact (World.cell?_alloc_lt _ _ _ (lt_of_cell fS.out)).trans fS.out)
            have FO := Lib.hid (show u4.heap[gO]? = some (.cells #[.int .i64 3, .string ⟨#[]⟩] 59 (0, 0)) from by rw [hA]; exact (Below.heap_alloc _ _ _ (lt_of_hp FO.out)).trans FO.out)
            have FI := Lib.hid (show u4.heap[gI]? = some (.cells #[.string pid, .int .u32 0, .int .u32 0, .slice (some ⟨bS, oS, none⟩) 1 cS] 68 (0, 0)) from by rw [hA]; exact (Below.heap_alloc _ _ _ (lt_of_hp FI.out)).trans FI.out)
            rw [← hA] at hHeld2 ⊢
            rw [← hgA]
            clear hK K hHeld hA hgA
            have hHeld := hHeld2
            clear hHeld2
            try simp only [Act.put, List.setIfInBounds_toArray, List.set_cons_zero, List.set_cons_succ]
            refine wpAnyH_ready (rs := [8]) (by kernel_rfl) (by simp) ?_
            refine AllReadyH.cons rfl (fun K hK => ?_) ?_
            · obtain ⟨ta0, ta1, ta2, ta3, taf⟩ := box_cells FA.out
              have LF := Lib.hid (wk_leaf hHeld GA.out FA.out GI.out FI.out GO.out FO.out GS.out fS.out hcS.out HSG.out)
              go_simp
              refine hK.out _ _ ((((hHeld.setCell GA.out _).setCell GA.out _).setCell GA.out _).setCell GA.out _) (fun hHeld => ?_)
              clear hK K hHeld ta0 ta1 ta2 ta3 taf
              try simp only [Act.put, List.setIfInBounds_toArray, List.set_cons_zero, List.set_cons_succ]
              refine wpAnyH_done (by kernel_rfl) ?_ _
              go_wp2_with fail
              go_meet
              exact LF.out
            exact AllReadyH.nil
          exact AllReadyH.nil
        refine AllReadyH.cons rfl (fun K hK => ?_) ?_
        · go_simp
          refine hK.out _ _ (hHeld.alloc hHeld.size _) (fun hHeld2 => ?_)
          obtain ⟨u3, hA⟩ : ∃ u, u = World.alloc u2 (.cells #[.int .u32 0, .slice none 0 0, .slice none 0 0, .int .u32 0] 34) := ⟨_, rfl⟩
          obtain ⟨gA, hgA⟩ : ∃ g, g = u2.heap.size := ⟨_, rfl⟩
          have GA := Lib.hid (show w3.heap.size ≤ gA from by rw [hgA]; exact hHeld.size)
          have FA := Lib.hid (show u3.heap[gA]? = some (.cells #[.int .u32 0, .slice none 0 0, .slice none 0 0, .int .u32 0] 34 (0, 0)) from by rw [hA, hgA]; exact heap_alloc_new _ _)
          have fS := Lib.hid (show u3.cell? ⟨bS, oS, none⟩ = some (.string sg) from by rw [hA]; exact (World.cell?_alloc_lt _ _ _ (lt_of_cell fS.out)).trans fS.out)
          have FO := Lib.hid (show u3.heap[gO]? = some (.cells #[.int .i64 3, .string ⟨#[]⟩] 59 (0, 0)) from by rw [hA]; exact (Below.heap_alloc _ _ _ (lt_of_hp FO.out)).trans FO.out)
          rw [← hA] at hHeld2 ⊢
          rw [← hgA]
          clear hK K hHeld hA hgA
          have hHeld := hHeld2
          clear hHeld2
          try simp only [Act.put, List.setIfInBounds_toArray, List.set_cons_zero, List.set_cons_succ]
          refine wpAnyH_ready (rs := [3]) (by kernel_rfl) (by simp) ?_
          refine AllReadyH.cons rfl (fun K hK => ?_) ?_
          · go_simp
            refine hK.out _ _ (hHeld.alloc hHeld.size _) (fun hHeld2 => ?_)
            obtain ⟨u4, hI⟩ : ∃ u, u = World.alloc u3 (.cells #[.string pid, .int .u32 0, .int .u32 0, .slice (some ⟨bS, oS, none⟩) 1 cS] 68) := ⟨_, rfl⟩
            obtain ⟨gI, hgI⟩ : ∃ g, g = u3.heap.size := ⟨_, rfl⟩
            have GI := Lib.hid (show w3.heap.size ≤ gI from by rw [hgI]; exact hHeld.size)
            have FI := Lib.hid (show u4.heap[gI]? = some (.cells #[.string pid, .int .u32 0, .int .u32 0, .slice (some ⟨bS, oS, none⟩) 1 cS] 68 (0, 0)) from by rw [hI, hgI]; exact heap_alloc_new _ _)
            have fS := Lib.hid (show u4.cell? ⟨bS, oS, none⟩ = some (.string sg) from by rw [hI]; exact (World.cell?_alloc_lt _ _ _ (lt_of_cell fS.out)).trans fS.out)
            have FO := Lib.hid (show u4.heap[gO]? = some (.cells #[.int .i64 3, .string ⟨#[]⟩] 59 (0, 0)) from by rw [hI]; exact (Below.heap_alloc _ _ _ (lt_of_hp FO.out)).trans FO.out)
            have FA := Lib.hid (show u4.heap[gA]? = some (.cells #[.int .u32 0, .slice none 0 0, .slice none 0 0, .int .u32 0] 34 (0, 0)) from by rw [hI]; exact (Below.heap_alloc _ _ _ (lt_of_hp FA.out)).trans FA.out)
            rw [← hI] at hHeld2 ⊢
            rw [← hgI]
            clear hK K hHeld hI hgI
            have hHeld := hHeld2
            clear hHeld2
            try simp only [Act.put, List.setIfInBounds_toArray, List.set_cons_zero, List.set_cons_succ]
            refine take_at (i := 6) (d := 22) (v := ?vq7) rfl rfl (by kernel_rfl) (by kernel_rfl) (by kernel_rfl) (fun _ _ _ h => h) (Or.inl ⟨by rfl, ?yq7⟩) hHeld ?rq7
            case yq7 => (intro w hSw; go_simp; try with_reducible rfl)
            simp only [Act.put, List.setIfInBounds_toArray, List.set_cons_zero, List.set_cons_succ]
            refine wpAnyH_ready (rs := [8]) (by kernel_rfl) (by simp) ?_
            refine AllReadyH.cons rfl (fun K hK => ?_) ?_
            · obtain ⟨ta0, ta1, ta2, ta3, taf⟩ := box_cells FA.out
              have LF := Lib.hid (wk_leaf hHeld GA.out FA.out GI.out FI.out GO.out FO.out GS.out fS.out hcS.out HSG.out)
              go_simp
              refine hK.out _ _ ((((hHeld.setCell GA.out _).setCell GA.out _).setCell GA.out _).setCell GA.out _) (fun hHeld => ?_)
              clear hK K hHeld ta0 ta1 ta2 ta3 taf
              try simp only [Act.put, List.setIfInBounds_toArray, List.set_cons_zero, List.set_cons_succ]
              refine wpAnyH_done (by kernel_rfl) ?_ _
              go_wp2_with fail
              go_meet
              exact LF.out
            exact AllReadyH.nil
          exact AllReadyH.nil
        exact AllReadyH.nil
      refine AllReadyH.cons rfl (fun K hK => ?_) ?_
      · go_simp
        refine hK.out _ _ (hHeld.alloc hHeld.size _) (fun hHeld2 => ?_)
        obtain ⟨u2, hA⟩ : ∃ u, u = World.alloc u1 (.cells #[.int .u32 0, .slice none 0 0, .slice none 0 0, .int .u32 0] 34) := ⟨_, rfl⟩
        obtain ⟨gA, hgA⟩ : ∃ g, g = u1.heap.size := ⟨_, rfl⟩
        have GA := Lib.hid (show w3.heap.size ≤ gA from by rw [hgA]; exact hHeld.size)
        have FA := Lib.hid (show u2.heap[gA]? = some (.cells #[.int .u32 0, .slice none 0 0, .slice none 0 0, .int .u32 0] 34 (0, 0)) from by rw [hA, hgA]; exact heap_alloc_new _ _)
        have fS := Lib.hid (show u2.cell? ⟨bS, oS, none⟩ = some (.string sg) from by rw [hA]; exact (World.cell?_alloc_lt _ _ _ (lt_of_cell fS.out)).trans fS.out)
        rw [← hA] at hHeld2 ⊢
        rw [← hgA]
        clear hK K hHeld hA hgA
        have hHeld := hHeld2
        clear hHeld2
        try simp only [Act.put, List.setIfInBounds_toArray, List.set_cons_zero, List.set_cons_succ]
        refine wpAnyH_ready (rs := [3, 5]) (by kernel_rfl) (by simp) ?_
        refine AllReadyH.cons rfl (fun K hK => ?_) ?_
        · go_simp
          refine hK.out _ _ (hHeld.alloc hHeld.size _) (fun hHeld2 => ?_)
          obtain ⟨u3, hI⟩ : ∃ u, u = World.alloc u2 (.cells #[.string pid, .int .u32 0, .int .u32 0, .slice (some ⟨bS, oS, none⟩) 1 cS] 68) := ⟨_, rfl⟩
          obtain ⟨gI, hgI⟩ : ∃ g, g = u2.heap.size := ⟨_, rfl⟩
          have GI := Lib.hid (show w3.heap.size ≤ gI from by rw [hgI]; exact hHeld.size)
          have FI := Lib.hid (show u3.heap[gI]? = some (.cells #[.string pid, .int .u32 0, .int .u32 0, .slice (some ⟨bS, oS, none⟩) 1 cS] 68 (0, 0)) from by rw [hI, hgI]; exact heap_alloc_new _ _)
          have fS := Lib.hid (show u3.cell? ⟨bS, oS, none⟩ = some (.string sg) from by rw [hI]; exact (World.cell?_alloc_lt _ _ _ (lt_of_cell fS.out)).trans fS.out)
          have FA := Lib.hid (show u3.heap[gA]? = some (.cells #[.int .u32 0, .slice none 0 0, .slice none 0 0, .int .u32 0] 34 (0, 0)) from by rw [hI]; exact (Below.heap_alloc _ _ _ (lt_of_hp FA.out)).trans FA.out)
          rw [← hI] at hHeld2 ⊢
          rw [← hgI]
          clear hK K hHeld hI hgI
          have hHeld := hHeld2
          clear hHeld2
          try simp only [Act.put, List.setIfInBounds_toArray, List.set_cons_zero, List.set_cons_succ]
          refine wpAnyH_ready (rs := [5]) (by kernel_rfl) (by simp) ?_
          refine AllReadyH.cons rfl (fun K hK => ?_) ?_
          · go_simp
            refine hK.out _ _ (hHeld.alloc hHeld.size _) (fun hHeld2 => ?_)
            obtain ⟨u4, hO⟩ : ∃ u, u = World.alloc u3 (.cells #[.int .i64 3, .string ⟨#[]⟩] 59) := ⟨_, rfl⟩
            obtain ⟨gO, hgO⟩ : ∃ g, g = u3.heap.size := ⟨_, rfl⟩
            have GO := Lib.hid (show w3.heap.size ≤ gO from by rw [hgO]; exact hHeld.size)
            have FO := Lib.hid (show u4.heap[gO]? = some (.cells #[.int .i64 3, .string ⟨#[]⟩] 59 (0, 0)) from by rw [hO, hgO]; exact heap_alloc_new _ _)
            have fS := Lib.hid (show u4.cell? ⟨bS, oS, none⟩ = some (.string sg) from by rw [hO]; exact (World.cell?_alloc_lt _ _ _ (lt_of_cell fS.out)).trans fS.out)
            have FA := Lib.hid (show u4.heap[gA]? = some (.cells #[.int .u32 0, .slice none 0 0, .slice none 0 0, .int .u32 0] 34 (0, 0)) from by rw [hO]; exact (Below.heap_alloc _ _ _ (lt_of_hp FA.out)).trans FA.out)
            have FI := Lib.hid (show u4.heap[gI]? = some (.cells #[.string pid, .int .u32 0, .int .u32 0, .slice (some ⟨bS, oS, none⟩) 1 cS] 68 (0, 0)) from by rw [hO]; exact (Below.heap_alloc _ _ _ (lt_of_hp FI.out)).trans FI.out)
            rw [← hO] at hHeld2 ⊢
            rw [← hgO]
            clear hK K hHeld hO hgO
            have hHeld := hHeld2
            clear hHeld2
            try simp only [Act.put, List.setIfInBounds_toArray, List.set_cons_zero, List.set_cons_succ]
            refine take_at (i := 6) (d := 22) (v := ?vq8) rfl rfl (by kernel_rfl) (by kernel_rfl) (by kernel_rfl) (fun _ _ _ h => h) (Or.inl ⟨by rfl, ?yq8⟩) hHeld ?rq8
            case yq8 => (intro w hSw; go_simp; try with_reducible rfl)
            simp only [Act.put, List.setIfInBounds_toArray, List.set_cons_zero, List.set_cons_succ]
            refine wpAnyH_ready (rs := [8]) (by kernel_rfl) (by simp) ?_
            refine AllReadyH.cons rfl (fun K hK => ?_) ?_
            · obtain ⟨ta0, ta1, ta2, ta3, taf⟩ := box_cells FA.out
              have LF := Lib.hid (wk_leaf hHeld GA.out FA.out GI.out FI.out GO.out FO.out GS.out fS.out hcS.out HSG.out)
              go_simp
              refine hK.out _ _ ((((hHeld.setCell GA.out _).setCell GA.out _).setCell GA.out _).setCell GA.out _) (fun hHeld => ?_)
              clear hK K hHeld ta0 ta1 ta2 ta3 taf
              try simp only [Act.put, List.setIfInBounds_toArray, List.set_cons_zero, List.set_cons_succ]
              refine wpAnyH_done (by kernel_rfl) ?_ _
              go_wp2_with fail
              go_meet
              exact LF.out
            exact AllReadyH.nil
          exact AllReadyH.nil
        refine AllReadyH.cons rfl (fun K hK => ?_) ?_
        · go_simp
          refine hK.out _ _ (hHeld.alloc hHeld.size _) (fun hHeld2 => ?_)
          obtain ⟨u3, hO⟩ : ∃ u, u = World.alloc u2 (.cells #[.int .i64 3, .string ⟨#[]⟩] 59) := ⟨_, rfl⟩
          obtain ⟨gO, hgO⟩ : ∃ g, g = u2.heap.size := ⟨_, rfl⟩
          have GO := Lib.hid (show w3.heap.size ≤ gO from by rw [hgO]; exact hHeld.size)
          have FO := Lib.hid (show u3.heap[gO]? = some (.cells #[.int .i64 3, .string ⟨#[]⟩] 59 (0, 0)) from by rw [hO, hgO]; exact heap_alloc_new _ _)
          have fS := Lib.hid (show u3.cell? ⟨bS, oS, none⟩ = some (.string sg) from by rw [hO]; exact (World.cell?_alloc_lt _ _ _ (lt_of_cell fS.out)).trans fS.out)
          have FA := Lib.hid (show u3.heap[gA]? = some (.cells #[.int .u32 0, .slice none 0 0, .slice none 0 0, .int .u32 0] 34 (0, 0)) from by rw [hO]; exact (Below.heap_alloc _ _ _ (lt_of_hp FA.out)).trans FA.out)
          rw [← hO] at hHeld2 ⊢
          rw [← hgO]
          clear hK K hHeld hO hgO
          have hHeld := hHeld2
          clear hHeld2
          try simp only [Act.put, List.setIfInBounds_toArray, List.set_cons_zero, List.set_cons_succ]
          refine wpAnyH_ready (rs := [3]) (by kernel_rfl) (by simp) ?_
          refine AllReadyH.cons rfl (fun K hK => ?_) ?_
          · go_simp
            refine hK.out _ _ (hHeld.alloc hHeld.size _) (fun hHeld2 => ?_)
            obtain ⟨u4, hI⟩ : ∃ u, u = World.alloc u3 (.cells #[.string pid, .int .u32 0, .int .u32 0, .slice (some ⟨bS, oS, none⟩) 1 cS] 68) := ⟨_, rfl⟩
            obtain ⟨gI, hgI⟩ : ∃ g, g = u3.heap.size := ⟨_, rfl⟩
            have GI := Lib.hid (show w3.heap.size ≤ gI from by rw [hgI]; exact hHeld.size)
            have FI := Lib.hid (show u4.heap[gI]? = some (.cells #[.string pid, .int .u32 0, .int .u32 0, .slice (some ⟨bS, oS, none⟩) 1 cS] 68 (0, 0)) from by rw [hI, hgI]; exact heap_alloc_new _ _)
            have fS := Lib.hid (show u4.cell? ⟨bS, oS, none⟩ = some (.string sg) from by rw [hI]; exact (World.cell?_alloc_lt _ _ _ (lt_of_cell fS.out)).trans fS.out)
            have FA := Lib.hid (show u4.heap[gA]? = some (.cells #[.int .u32 0, .slice none 0 0, .slice none 0 0, .int .u32 0] 34 (0, 0)) from by rw [hI]; exact (Below.heap_alloc _ _ _ (lt_of_hp FA.out)).trans FA.out)
            have FO := Lib.hid (show u4.heap[gO]? = some (.cells #[.int .i64 3, .string ⟨#[]⟩] 59 (0, 0)) from by rw [hI]; exact (Below.heap_alloc _ _ _ (lt_of_hp FO.out)).trans FO.out)
            rw [← hI] at hHeld2 ⊢
            rw [← hgI]
            clear hK K hHeld hI hgI
            have hHeld := hHeld2
            clear hHeld2
            try simp only [Act.put, List.setIfInBounds_toArray, List.set_cons_zero, List.set_cons_succ]
            refine take_at (i := 6) (d := 22) (v := ?vq9) rfl rfl (by kernel_rfl) (by kernel_rfl) (by kernel_rfl) (fun _ _ _ h => h) (Or.inl ⟨by rfl, ?yq9⟩) hHeld ?rq9
            case yq9 => (intro w hSw; go_simp; try with_reducible rfl)
            simp only [Act.put, List.setIfInBounds_toArray, List.set_cons_zero, List.set_cons_succ]
            refine wpAnyH_ready (rs := [8]) (by kernel_rfl) (by simp) ?_
            refine AllReadyH.cons rfl (fun K hK => ?_) ?_
            · obtain ⟨ta0, ta1, ta2, ta3, taf⟩ := box_cells FA.out
              have LF := Lib.hid (wk_leaf hHeld GA.out FA.out GI.out FI.out GO.out FO.out GS.out fS.out hcS.out HSG.out)
              go_simp
              refine hK.out _ _ ((((hHeld.setCell GA.out _).setCell GA.out _).setCell GA.out _).setCell GA.out _) (fun hHeld => ?_)
              clear hK K hHeld ta0 ta1 ta2 ta3 taf
              try simp only [Act.put, List.setIfInBounds_toArray, List.set_cons_zero, List.set_cons_succ]
              refine wpAnyH_done (by kernel_rfl) ?_ _
              go_wp2_with fail
              go_meet
              exact LF.out
            exact AllReadyH.nil
          exact AllReadyH.nil
        exact AllReadyH.nil
      exact AllReadyH.nil
    refine AllReadyH.cons rfl (fun K hK => ?_) ?_
    · go_simp
      refine hK.out _ _ (hHeld.alloc hHeld.size _) (fun hHeld2 => ?_)
      obtain ⟨u1, hO⟩ : ∃ u, u = World.alloc u0 (.cells #[.int .i64 3, .string ⟨#[]⟩] 59) := ⟨_, rfl⟩
      obtain ⟨gO, hgO⟩ : ∃ g, g = u0.heap.size := ⟨_, rfl⟩
      have GO := Lib.hid (show w3.heap.size ≤ gO from by rw [hgO]; exact hHeld.size)
      have FO := Lib.hid (show u1.heap[gO]? = some (.cells #[.int .i64 3, .string ⟨#[]⟩] 59 (0, 0)) from by rw [hO, hgO]; exact heap_alloc_new _ _)
      rw [← hO] at hHeld2 ⊢
      rw [← hgO]
      clear hK K hHeld hO hgO
      have hHeld := hHeld2
      clear hHeld2
      try simp only [Act.put, List.setIfInBounds_toArray, List.set_cons_zero, List.set_cons_succ]
      refine wpAnyH_ready (rs := [1, 7]) (by kernel_rfl) (by simp) ?_
      refine AllReadyH.cons rfl (fun K hK => ?_) ?_
      · go_simp
        go_at_call 18
        refine (SG.out u1).mono ?_
        rintro e u2 ⟨vS, rfl, hst, hB⟩
        obtain ⟨bS, oS, cS, rfl, gS, fS, hcS⟩ := str_one hst hHeld.size
        have GS := Lib.hid gS
        have fS := Lib.hid fS
        have hcS := Lib.hid hcS
        clear gS hst
        have FO := Lib.hid ((hB.block _ (lt_of_hp FO.out)).trans FO.out)
        refine hK.out _ _ (below_next hHeld hHeld.size hB) (fun hHeld => ?_)
        clear hK K hB
        try simp only [Act.put, List.setIfInBounds_toArray, List.set_cons_zero, List.set_cons_succ]
        refine take_at (i := 2) (d := 18) (v := ?vq10) rfl rfl (by kernel_rfl) (by kernel_rfl) (by kernel_rfl) (fun _ _ _ h => h) (Or.inl ⟨by rfl, ?yq10⟩) hHeld ?rq10
        case yq10 => (intro w hSw; go_simp; try with_reducible rfl)
        simp only [Act.put, List.setIfInBounds_toArray, List.set_cons_zero, List.set_cons_succ]
        refine wpAnyH_ready (rs := [3, 7]) (by kernel_rfl) (by simp) ?_
        refine AllReadyH.cons rfl (fun K hK => ?_) ?_
        · go_simp
          refine hK.out _ _ (hHeld.alloc hHeld.size _) (fun hHeld2 => ?_)
          obtain ⟨u3, hI⟩ : ∃ u, u = World.alloc u2 (.cells #[.string pid, .int .u32 0, .int .u32 0, .slice (some ⟨bS, oS, none⟩) 1 cS] 68) := ⟨_, rfl⟩
          obtain ⟨gI, hgI⟩ : ∃ g, g = u2.heap.size := ⟨_, rfl⟩
          have GI := Lib.hid (show w3.heap.size ≤ gI from by rw [hgI]; exact hHeld.size)
          have FI := Lib.hid (show u3.heap[gI]? = some (.cells #[.string pid, .int .u32 0, .int .u32 0, .slice (some ⟨bS, oS, none⟩) 1 cS] 68 (0, 0)) from by rw [hI, hgI]; exact heap_alloc_new _ _)
          have FO := Lib.hid (show u3.heap[gO]? = some (.cells #[.int .i64 3, .string ⟨#[]⟩] 59 (0, 0)) from by rw [hI]; exact (Below.heap_alloc _ _ _ (lt_of_hp FO.out)).trans FO.out)
          have fS := Lib.hid (show u3.cell? ⟨bS, oS, none⟩ = some (.string sg) from by rw [hI]; exact (World.cell?_alloc_lt _ _ _ (lt_of_cell fS.out)).trans fS.out)
          rw [← hI] at hHeld2 ⊢
          rw [← hgI]
          clear hK K hHeld hI hgI
          have hHeld := hHeld2
          clear hHeld2
          try simp only [Act.put, List.setIfInBounds_toArray, List.set_cons_zero, List.set_cons_succ]
          refine take_at (i := 6) (d := 22) (v := ?vq11) rfl rfl (by kernel_rfl) (by kernel_rfl) (by kernel_rfl) (fun _ _ _ h => h) (Or.inl ⟨by rfl, ?yq11⟩) hHeld ?rq11
          case yq11 => (intro w hSw; go_simp; try with_reducible rfl)
          simp only [Act.put, List.setIfInBounds_toArray, List.set_cons_zero, List.set_cons_succ]
          refine wpAnyH_ready (rs := [7]) (by kernel_rfl) (by simp) ?_
          refine AllReadyH.cons rfl (fun K hK => ?_) ?_
          · go_simp
            refine hK.out _ _ (hHeld.alloc hHeld.size _) (fun hHeld2 => ?_)
            obtain ⟨u4, hA⟩ : ∃ u, u = World.alloc u3 (.cells #[.int .u32 0, .slice none 0 0, .slice none 0 0, .int .u32 0] 34) := ⟨_, rfl⟩
            obtain ⟨gA, hgA⟩ : ∃ g, g = u3.heap.size := ⟨_, rfl⟩
            have GA := Lib.hid (show w3.heap.size ≤ gA from by rw [hgA]; exact hHeld.size)
            have FA := Lib.hid (show u4.heap[gA]? = some (.cells #[.int .u32 0, .slice none 0 0, .slice none 0 0, .int .u32 0] 34 (0, 0)) from by rw [hA, hgA]; exact heap_alloc_new _ _)
            have FO := Lib.hid (show u4.heap[gO]? = some (.cells #[.int .i64 3, .string ⟨#[]⟩] 59 (0, 0)) from by rw [hA]; exact (Below.heap_alloc _ _ _ (lt_of_hp FO.out)).trans FO.out)
            have fS := Lib.hid (show u4.cell? ⟨bS, oS, none⟩ = some (.string sg) from by rw [hA]; exact (World.cell?_alloc_lt _ _ _ (lt_of_cell fS.out)).trans fS.out)
            have FI := Lib.hid (show u4.heap[gI]? = some (.cells #[.string pid, .int .u32 0, .int .u32 0, .slice (some ⟨bS, oS, none⟩) 1 cS] 68 (0, 0)) from by rw [hA]; exact (Below.heap_alloc _ _ _ (lt_of_hp FI.out)).trans FI.out)
            rw [← hA] at hHeld2 ⊢
            rw [← hgA]
            clear hK K hHeld hA hgA
            have hHeld := hHeld2
            clear hHeld2
            try simp only [Act.put, List.setIfInBounds_toArray, List.set_cons_zero, List.set_cons_succ]
            refine wpAnyH_ready (rs := [8]) (by kernel_rfl) (by simp) ?_
            refine AllReadyH.cons rfl (fun K hK => ?_) ?_
            · obtain ⟨ta0, ta1, ta2, ta3, taf⟩ := box_cells FA.out
              have LF := Lib.hid (wk_leaf hHeld GA.out FA.out GI.out FI.out GO.out FO.out GS.out fS.out hcS.out HSG.out)
              go_simp
              refine hK.out _ _ ((((hHeld.setCell GA.out _).setCell GA.out _).setCell GA.out _).setCell GA.out _) (fun hHeld => ?_)
              clear hK K hHeld ta0 ta1 ta2 ta3 taf
              try simp only [Act.put, List.setIfInBounds_toArray, List.set_cons_zero, List.set_cons_succ]
              refine wpAnyH_done (by kernel_rfl) ?_ _
              go_wp2_with fail
              go_meet
              exact LF.out
            exact AllReadyH.nil
          exact AllReadyH.nil
        refine AllReadyH.cons rfl (fun K hK => ?_) ?_
        · go_simp
          refine hK.out _ _ (hHeld.alloc hHeld.size _) (fun hHeld2 => ?_)
          obtain ⟨u3, hA⟩ : ∃ u, u = World.alloc u2 (.cells #[.int .u32 0, .slice none 0 0, .slice none 0 0, .int .u32 0] 34) := ⟨_, rfl⟩
          obtain ⟨gA, hgA⟩ : ∃ g, g = u2.heap.size := ⟨_, rfl⟩
          have GA := Lib.hid (show w3.heap.size ≤ gA from by rw [hgA]; exact hHeld.size)
          have FA := Lib.hid (show u3.heap[gA]? = some (.cells #[.int .u32 0, .slice none 0 0, .slice none 0 0, .int .u32 0] 34 (0, 0)) from by rw [hA, hgA]; exact heap_alloc_new _ _)
          have FO := Lib.hid (show u3.heap[gO]? = some (.cells #[.int .i64 3, .string ⟨#[]⟩] 59 (0, 0)) from by rw [hA]; exact (Below.heap_alloc _ _ _ (lt_of_hp FO.out)).trans FO.out)
          have fS := Lib.hid (show u3.cell? ⟨bS, oS, none⟩ = some (.string sg) from by rw [hA]; exact (World.cell?_alloc_lt _ _ _ (lt_of_cell fS.out)).trans fS.out)
          rw [← hA] at hHeld2 ⊢
          rw [← hgA]
          clear hK K hHeld hA hgA
          have hHeld := hHeld2
          clear hHeld2
          try simp only [Act.put, List.setIfInBounds_toArray, List.set_cons_zero, List.set_cons_succ]
          refine wpAnyH_ready (rs := [3]) (by kernel_rfl) (by simp) ?_
          refine AllReadyH.cons rfl (fun K hK => ?_) ?_
          · go_simp
            refine hK.out _ _ (hHeld.alloc hHeld.size _) (fun hHeld2 => ?_)
            obtain ⟨u4, hI⟩ : ∃ u, u = World.alloc u3 (.cells #[.string pid, .int .u32 0, .int .u32 0, .slice (some ⟨bS, oS, none⟩) 1 cS] 68) := ⟨_, rfl⟩
            obtain ⟨gI, hgI⟩ : ∃ g, g = u3.heap.size := ⟨_, rfl⟩
            have GI := Lib.hid (show w3.heap.size ≤ gI from by rw [hgI]; exact hHeld.size)
            have FI := Lib.hid (show u4.heap[gI]? = some (.cells #[.string pid, .int .u32 0, .int .u32 0, .slice (some ⟨bS, oS, none⟩) 1 cS] 68 (0, 0)) from by rw [hI, hgI]; exact heap_alloc_new _ _)
            have FO := Lib.hid (show u4.heap[gO]? = some (.cells #[.int .i64 3, .string ⟨#[]⟩] 59 (0, 0)) from by rw [hI]; exact (Below.heap_alloc _ _ _ (lt_of_hp FO.out)).trans FO.out)
            have fS := Lib.hid (show u4.cell? ⟨bS, oS, none⟩ = some (.string sg) from by rw [hI]; exact (World.cell?_alloc_lt _ _ _ (lt_of_cell fS.out)).trans fS.out)
            have FA := Lib.hid (show u4.heap[gA]? = some (.cells #[.int .u32 0, .slice none 0 0, .slice none 0 0, .int .u32 0] 34 (0, 0)) from by rw [hI]; exact (Below.heap_alloc _ _ _ (lt_of_hp FA.out)).trans FA.out)
            rw [← hI] at hHeld2 ⊢
            rw [← hgI]
            clear hK K hHeld hI hgI
            have hHeld := hHeld2
            clear hHeld2
            try simp only [Act.put, List.setIfInBounds_toArray, List.set_cons_zero, List.set_cons_succ]
            refine take_at (i := 6) (d := 22) (v := ?vq12) rfl rfl (by kernel_rfl) (by kernel_rfl) (by kernel_rfl) (fun _ _ _ h => h) (Or.inl ⟨by rfl, ?yq12⟩) hHeld ?rq12
            case yq12 => (intro w hSw; go_simp; try with_reducible rfl)
            simp only [Act.put, List.setIfInBounds_toArray, List.set_cons_zero, List.set_cons_succ]
            refine wpAnyH_ready (rs := [8]) (by kernel_rfl) (by simp) ?_
            refine AllReadyH.cons rfl (fun K hK => ?_) ?_
            · obtain ⟨ta0, ta1, ta2, ta3, taf⟩ := box_cells FA.out
              have LF := Lib.hid (wk_leaf hHeld GA.out FA.out GI.out FI.out GO.out FO.out GS.out fS.out hcS.out HSG.out)
              go_simp
              refine hK.out _ _ ((((hHeld.setCell GA.out _).setCell GA.out _).setCell GA.out _).setCell GA.out _) (fun hHeld => ?_)
              clear hK K hHeld ta0 ta1 ta2 ta3 taf
              try simp only [Act.put, List.setIfInBounds_toArray, List.set_cons_zero, List.set_cons_succ]
              refine wpAnyH_done (by kernel_rfl) ?_ _
              go_wp2_with fail
              go_meet
              exact LF.out
            exact AllReadyH.nil
          exact AllReadyH.nil
        exact AllReadyH.nil
      refine AllReadyH.cons rfl (fun K hK => ?_) ?_
      · go_simp
        refine hK.out _ _ (hHeld.alloc hHeld.size _) (fun hHeld2 => ?_)
        obtain ⟨u2, hA⟩ : ∃ u, u = World.alloc u1 (.cells #[.int .u32 0, .slice none 0 0, .slice none 0 0, .int .u32 0] 34) := ⟨_, rfl⟩
        obtain ⟨gA, hgA⟩ : ∃ g, g = u1.heap.size := ⟨_, rfl⟩
        have GA := Lib.hid (show w3.heap.size ≤ gA from by rw [hgA]; exact hHeld.size)
        have FA := Lib.hid (show u2.heap[gA]? = some (.cells #[.int .u32 0, .slice none 0 0, .slice none 0 0, .int .u32 0] 34 (0, 0)) from by rw [hA, hgA]; exact heap_alloc_new _ _)
        have FO := Lib.hid (show u2.heap[gO]? = some (.cells #[.int .i64 3, .string ⟨#[]⟩] 59 (0, 0)) from by rw [hA]; exact (Below.heap_alloc _ _ _ (lt_of_hp FO.out)).trans FO.out)
        rw [← hA] at hHeld2 ⊢
        rw [← hgA]
        clear hK K hHeld hA hgA
        have hHeld := hHeld2
        clear hHeld2
        try simp only [Act.put, List.setIfInBounds_toArray, List.set_cons_zero, List.set_cons_succ]
        refine wpAnyH_ready (rs := [1]) (by kernel_rfl) (by simp) ?_
        refine AllReadyH.cons rfl (fun K hK => ?_) ?_
        · go_simp
          go_at_call 18
          refine (SG.out u2).mono ?_
          rintro e u3 ⟨vS, rfl, hst, hB⟩
          obtain ⟨bS, oS, cS, rfl, gS, fS, hcS⟩ := str_one hst hHeld.size
          have GS := Lib.hid gS
          have fS := Lib.hid fS
          have hcS := Lib.hid hcS
          clear gS hst
          have FO := Lib.hid ((hB.block _ (lt_of_hp FO.out)).trans FO.out)
          have FA := Lib.hid ((hB.block _ (lt_of_hp FA.out)).trans FA.out)
          refine hK.out _ _ (below_next hHeld hHeld.size hB) (fun hHeld => ?_)
          clear hK K hB
          try simp only [Act.put, List.setIfInBounds_toArray, List.set_cons_zero, List.set_cons_succ]
          refine take_at (i := 2) (d := 18) (v := ?vq13) rfl rfl (by kernel_rfl) (by kernel_rfl) (by kernel_rfl) (fun _ _ _ h => h) (Or.inl ⟨by rfl, ?yq13⟩) hHeld ?rq13
          case yq13 => (intro w hSw; go_simp; try with_reducible rfl)
          simp only [Act.put, List.setIfInBounds_toArray, List.set_cons_zero, List.set_cons_succ]
          refine wpAnyH_ready (rs := [3]) (by kernel_rfl) (by simp) ?_
          refine AllReadyH.cons rfl (fun K hK => ?_) ?_
          · go_simp
            refine hK.out _ _ (hHeld.alloc hHeld.size _) (fun hHeld2 => ?_)
            obtain ⟨u4, hI⟩ : ∃ u, u = World.alloc u3 (.cells #[.string pid, .int .u32 0, .int .u32 0, .slice (some ⟨bS, oS, none⟩) 1 cS] 68) := ⟨_, rfl⟩
            obtain ⟨gI, hgI⟩ : ∃ g, g = u3.heap.size := ⟨_, rfl⟩
            have GI := Lib.hid (show w3.heap.size ≤ gI from by rw [hgI]; exact hHeld.size)
            have FI := Lib.hid (show u4.heap[gI]? = some (.cells #[.string pid, .int .u32 0, .int .u32 0, .slice (some ⟨bS, oS, none⟩) 1 cS] 68 (0, 0)) from by rw [hI, hgI]; exact heap_alloc_new _ _)
            have FO := Lib.hid (show u4.heap[gO]? = some (.cells #[.int .i64 3, .string ⟨#[]⟩] 59 (0, 0)) from by rw [hI]; exact (Below.heap_alloc _ _ _ (lt_of_hp FO.out)).trans FO.out)
            have FA := Lib.hid (show u4.heap[gA]? = some (.cells #[.int .u32 0, .slice none 0 0, .slice none 0 0, .int .u32 0] 34 (0, 0)) from by rw [hI]; exact (Below.heap_alloc _ _ _ (lt_of_hp FA.out)).trans FA.out)
            have fS := Lib.hid (show u4.cell? ⟨bS, oS, none⟩ = some (.string sg) from by rw [hI]; exact (World.cell?_alloc_lt _ _ _ (lt_of_cell fS.out)).trans fS.out)
            rw [← hI] at hHeld2 ⊢
            rw [← hgI]
            clear hK K hHeld hI hgI
            have hHeld := hHeld2
            clear hHeld2
            try simp only [Act.put, List.setIfInBounds_toArray, List.set_cons_zero, List.set_cons_succ]
            refine take_at (i := 6) (d := 22) (v := ?vq14) rfl rfl (by kernel_rfl) (by kernel_rfl) (by kernel_rfl) (fun _ _ _ h => h) (Or.inl ⟨by rfl, ?yq14⟩) hHeld ?rq14
            case yq14 => (intro w hSw; go_simp; try with_reducible rfl)
            simp only [Act.put, List.setIfInBounds_toArray, List.set_cons_zero, List.set_cons_succ]
            refine wpAnyH_ready (rs := [8]) (by kernel_rfl) (by simp) ?_
            refine AllReadyH.cons rfl (fun K hK => ?_) ?_
            · obtain ⟨ta0, ta1, ta2, ta3, taf⟩ := box_cells FA.out
              have LF := Lib.hid (wk_leaf hHeld GA.out FA.out GI.out FI.out GO.out FO.out GS.out fS.out hcS.out HSG.out)
              go_simp
              refine hK.out _ _ ((((hHeld.setCell GA.out _).setCell GA.out _).setCell GA.out _).setCell GA.out _) (fun hHeld => ?_)
              clear hK K hHeld ta0 ta1 ta2 ta3 taf
              try simp only [Act.put, List.setIfInBounds_toArray, List.set_cons_zero, List.set_cons_succ]
              refine wpAnyH_done (by kernel_rfl) ?_ _
              go_wp2_with fail
              go_meet
              exact LF.out
            exact AllReadyH.nil
          exact AllReadyH.nil
        exact AllReadyH.nil
      exact AllReadyH.nil
    refine AllReadyH.cons rfl (fun K hK => ?_) ?_
    · go_simp
      refine hK.out _ _ (hHeld.alloc hHeld.size _) (fun hHeld2 => ?_)
      obtain ⟨u1, hA⟩ : ∃ u, u = World.alloc u0 (.cells #[.int .u32 0, .slice none 0 0, .slice none 0 0, .int .u32 0] 34) := ⟨_, rfl⟩
      obtain ⟨gA, hgA⟩ : ∃ g, g = u0.heap.size := ⟨_, rfl⟩
      have GA := Lib.hid (show w3.heap.size ≤ gA from by rw [hgA]; exact hHeld.size)
      have FA := Lib.hid (show u1.heap[gA]? = some (.cells #[.int .u32 0, .slice none 0 0, .slice none 0 0, .int .u32 0] 34 (0, 0)) from by rw [hA, hgA]; exact heap_alloc_new _ _)
      rw [← hA] at hHeld2 ⊢
      rw [← hgA]
      clear hK K hHeld hA hgA
      have hHeld := hHeld2
      clear hHeld2
      try simp only [Act.put, List.setIfInBounds_toArray, List.set_cons_zero, List.set_cons_succ]
      refine wpAnyH_ready (rs := [1, 5]) (by kernel_rfl) (by simp) ?_
      refine AllReadyH.cons rfl (fun K hK => ?_) ?_
      · go_simp
        go_at_call 18
        refine (SG.out u1).mono ?_
        rintro e u2 ⟨vS, rfl, hst, hB⟩
        obtain ⟨bS, oS, cS, rfl, gS, fS, hcS⟩ := str_one hst hHeld.size
        have GS := Lib.hid gS
        have fS := Lib.hid fS
        have hcS := Lib.hid hcS
        clear gS hst
        have FA := Lib.hid ((hB.block _ (lt_of_hp FA.out)).trans FA.out)
        refine hK.out _ _ (below_next hHeld hHeld.size hB) (fun hHeld => ?_)
        clear hK K hB
        try simp only [Act.put, List.setIfInBounds_toArray, List.set_cons_zero, List.set_cons_succ]
        refine take_at (i := 2) (d := 18) (v := ?vq15) rfl rfl (by kernel_rfl) (by kernel_rfl) (by kernel_rfl) (fun _ _ _ h => h) (Or.inl ⟨by rfl, ?yq15⟩) hHeld ?rq15
        case yq15 => (intro w hSw; go_simp; try with_reducible rfl)
        simp only [Act.put, List.setIfInBounds_toArray, List.set_cons_zero, List.set_cons_succ]
        refine wpAnyH_ready (rs := [3, 5]) (by kernel_rfl) (by simp) ?_
        refine AllReadyH.cons rfl (fun K hK => ?_) ?_
        · go_simp
          refine hK.out _ _ (hHeld.alloc hHeld.size _) (fun hHeld2 => ?_)
          obtain ⟨u3, hI⟩ : ∃ u, u = World.alloc u2 (.cells #[.string pid, .int .u32 0, .int .u32 0, .slice (some ⟨bS, oS, none⟩) 1 cS] 68) := ⟨_, rfl⟩
          obtain ⟨gI, hgI⟩ : ∃ g, g = u2.heap.size := ⟨_, rfl⟩
          have GI := Lib.hid (show w3.heap.size ≤ gI from by rw [hgI]; exact hHeld.size)
          have FI := Lib.hid (show u3.heap[gI]? = some (.cells #[.string pid, .int .u32 0, .int .u32 0, .slice (some ⟨bS, oS, none⟩) 1 cS] 68 (0, 0)) from by rw [hI, hgI]; exact heap_alloc_new _ _)
          have FA := Lib.hid (show u3.heap[gA]? = some (.cells #[.int .u32 0, .slice none 0 0, .slice none 0 0, .int .u32 0] 34 (0, 0)) from by rw [hI]; exact (Below.heap_alloc _ _ _ (lt_of_hp FA.out)).trans FA.out)
          have fS := Lib.hid (show u3.cell? ⟨bS, oS, none⟩ = some (.string sg) from by rw [hI]; exact (World.cell?_alloc_lt _ _ _ (lt_of_cell fS.out)).trans fS.out)
          rw [← hI] at hHeld2 ⊢
          rw [← hgI]
          clear hK K hHeld hI hgI
          have hHeld := hHeld2
          clear hHeld2
          try simp only [Act.put, List.setIfInBounds_toArray, List.set_cons_zero, List.set_cons_succ]
          refine wpAnyH_ready (rs := [5]) (by kernel_rfl) (by simp) ?_
          refine AllReadyH.cons rfl (fun K hK => ?_) ?_
          · go_simp
            refine hK.out _ _ (hHeld.alloc hHeld.size _) (fun hHeld2 => ?_)
            obtain ⟨u4, hO⟩ : ∃ u, u = World.alloc u3 (.cells #[.int .i64 3, .string ⟨#[]⟩] 59) := ⟨_, rfl⟩
            obtain ⟨gO, hgO⟩ : ∃ g, g = u3.heap.size := ⟨_, rfl⟩
            have GO := Lib.hid (show w3.heap.size ≤ gO from by rw [hgO]; exact hHeld.size)
            have FO := Lib.hid (show u4.heap[gO]? = some (.cells #[.int .i64 3, .string ⟨#[]⟩] 59 (0, 0)) from by rw [hO, hgO]; exact heap_alloc_new _ _)
            have FA := Lib.hid (show u4.heap[gA]? = some (.cells #[.int .u32 0, .slice none 0 0, .slice none 0 0, .int .u32 0] 34 (0, 0)) from by rw [hO]; exact (Below.heap_alloc _ _ _ (lt_of_hp FA.out)).trans FA.out)
            have fS := Lib.hid (show u4.cell? ⟨bS, oS, none⟩ = some (.string sg) from by rw [hO]; exact (World.cell?_alloc_lt _ _ _ (lt_of_cell fS.out)).trans fS.out)
            have FI := Lib.hid (show u4.heap[gI]? = some (.cells #[.string pid, .int .u32 0, .int .u32 0, .slice (some ⟨bS, oS, none⟩) 1 cS] 68 (0, 0)) from by rw [hO]; exact (Below.heap_alloc _ _ _ (lt_of_hp FI.out)).trans FI.out)
            rw [← hO] at hHeld2 ⊢
            rw [← hgO]
            clear hK K hHeld hO hgO
            have hHeld := hHeld2
            clear hHeld2
            try simp only [Act.put, List.setIfInBounds_toArray, List.set_cons_zero, List.set_cons_succ]
            refine take_at (i := 6) (d := 22) (v := ?vq16) rfl rfl (by kernel_rfl) (by kernel_rfl) (by kernel_rfl) (fun _ _ _ h => h) (Or.inl ⟨by rfl, ?yq16⟩) hHeld ?rq16
            case yq16 => (intro w hSw; go_simp; try with_reducible rfl)
            simp only [Act.put, List.setIfInBounds_toArray, List.set_cons_zero, List.set_cons_succ]
            refine wpAnyH_ready (rs := [8]) (by kernel_rfl) (by simp) ?_
            refine AllReadyH.cons rfl (fun K hK => ?_) ?_
            · obtain ⟨ta0, ta1, ta2, ta3, taf⟩ := box_cells FA.out
              have LF := Lib.hid (wk_leaf hHeld GA.out FA.out GI.out FI.out GO.out FO.out GS.out fS.out hcS.out HSG.out)
              go_simp
              refine hK.out _ _ ((((hHeld.setCell GA.out _).setCell GA.out _).setCell GA.out _).setCell GA.out _) (fun hHeld => ?_)
              clear hK K hHeld ta0 ta1 ta2 ta3 taf
              try simp only [Act.put, List.setIfInBounds_toArray, List.set_cons_zero, List.set_cons_succ]
              refine wpAnyH_done (by kernel_rfl) ?_ _
              go_wp2_with fail
              go_meet
              exact LF.out
            exact AllReadyH.nil
          exact AllReadyH.nil
        refine AllReadyH.cons rfl (fun K hK => ?_) ?_
        · go_simp
          refine hK.out _ _ (hHeld.alloc hHeld.size _) (fun hHeld2 => ?_)
          obtain ⟨u3, hO⟩ : ∃ u, u = World.alloc u2 (.cells #[.int .i64 3, .string ⟨#[]⟩] 59) := ⟨_, rfl⟩
          obtain ⟨gO, hgO⟩ : ∃ g, g = u2.heap.size := ⟨_, rfl⟩
          have GO := Lib.hid (show w3.heap.size ≤ gO from by rw [hgO]; exact hHeld.size)
          have FO := Lib.hid (show u3.heap[gO]? = some (.cells #[.int .i64 3, .string ⟨#[]⟩] 59 (0, 0)) from by rw [hO, hgO]; exact heap_alloc_new _ _)
          have FA := Lib.hid (show u3.heap[gA]? = some (.cells #[.int .u32 0, .slice none 0 0, .slice none 0 0, .int .u32 0] 34 (0, 0)) from by rw [hO]; exact (Below.heap_alloc _ _ _ (lt_of_hp FA.out)).trans FA.out)
          have fS := Lib.hid (show u3.cell? ⟨bS, oS, none⟩ = some (.string sg) from by rw [hO]; exact (World.cell?_alloc_lt _ _ _ (lt_of_cell fS.out)).trans fS.out)
          rw [← hO] at hHeld2 ⊢
          rw [← hgO]
          clear hK K hHeld hO hgO
          have hHeld := hHeld2
          clear hHeld2
          try simp only [Act.put, List.setIfInBounds_toArray, List.set_cons_zero, List.set_cons_succ]
          refine wpAnyH_ready (rs := [3]) (by kernel_rfl) (by simp) ?_
          refine AllReadyH.cons rfl (fun K hK => ?_) ?_
          · go_simp
            refine hK.out _ _ (hHeld.alloc hHeld.size _) (fun hHeld2 => ?_)
            obtain ⟨u4, hI⟩ : ∃ u, u = World.alloc u3 (.cells #[.string pid, .int .u32 0, .int .u32 0, .slice (some ⟨bS, oS, none⟩) 1 cS] 68) := ⟨_, rfl⟩
            obtain ⟨gI, hgI⟩ : ∃ g, g = u3.heap.size := ⟨_, rfl⟩
            have GI := Lib.hid (show w3.heap.size ≤ gI from by rw [hgI]; exact hHeld.size)
            have FI := Lib.hid (show u4.heap[gI]? = some (.cells #[.string pid, .int .u32 0, .int .u32 0, .slice (some ⟨bS, oS, none⟩) 1 cS] 68 (0, 0)) from by rw [hI, hgI]; exact heap_alloc_new _ _)
            have FA := Lib.hid (show u4.heap[gA]? = some (.cells #[.int .u32 0, .slice none 0 0, .slice none 0 0, .int .u32 0] 34 (0, 0)) from by rw [hI]; exact (Below.heap_alloc _ _ _ (lt_of_hp FA.out)).trans FA.out)
            have fS := Lib.hid (show u4.cell? ⟨bS, oS, none⟩ = some (.string sg) from by rw [hI]; exact (World.cell?_alloc_lt _ _ _ (lt_of_cell fS.out)).trans fS.out)
            have FO := Lib.hid (show u4.heap[gO]? = some (.cells #[.int .i64 3, .string ⟨#[]⟩] 59 (0, 0)) from by rw [hI]; exact (Below.heap_alloc _ _ _ (lt_of_hp FO.out)).trans FO.out)
            rw [← hI] at hHeld2 ⊢
            rw [← hgI]
            clear hK K hHeld hI hgI
            have hHeld := hHeld2
            clear hHeld2
            try simp only [Act.put, List.setIfInBounds_toArray, List.set_cons_zero, List.set_cons_succ]
            refine take_at (i := 6) (d := 22) (v := ?vq17) rfl rfl (by kernel_rfl) (by kernel_rfl) (by kernel_rfl) (fun _ _ _ h => h) (Or.inl ⟨by rfl, ?yq17⟩) hHeld ?rq17
            case yq17 => (intro w hSw; go_simp; try with_reducible rfl)
            simp only [Act.put, List.setIfInBounds_toArray, List.set_cons_zero, List.set_cons_succ]
            refine wpAnyH_ready (rs := [8]) (by kernel_rfl) (by simp) ?_
            refine AllReadyH.cons rfl (fun K hK => ?_) ?_
            · obtain ⟨ta0, ta1, ta2, ta3, taf⟩ := box_cells FA.out
              have LF := Lib.hid (wk_leaf hHeld GA.out FA.out GI.out FI.out GO.out FO.out GS.out fS.out hcS.out HSG.out)
              go_simp
              refine hK.out _ _ ((((hHeld.setCell GA.out _).setCell GA.out _).setCell GA.out _).setCell GA.out _) (fun hHeld => ?_)
              clear hK K hHeld ta0 ta1 ta2 ta3 taf
              try simp only [Act.put, List.setIfInBounds_toArray, List.set_cons_zero, List.set_cons_succ]
              refine wpAnyH_done (by kernel_rfl) ?_ _
              go_wp2_with fail
              go_meet
              exact LF.out
            exact AllReadyH.nil
          exact AllReadyH.nil
        exact AllReadyH.nil
      refine AllReadyH.cons rfl (fun K hK => ?_) ?_
      · go_simp
        refine hK.out _ _ (hHeld.alloc hHeld.size _) (fun hHeld2 => ?_)
        obtain ⟨u2, hO⟩ : ∃ u, u = World.alloc u1 (.cells #[.int .i64 3, .string ⟨#[]⟩] 59) := ⟨_, rfl⟩
        obtain ⟨gO, hgO⟩ : ∃ g, g = u1.heap.size := ⟨_, rfl⟩
        have GO := Lib.hid (show w3.heap.size ≤ gO from by rw [hgO]; exact hHeld.size)
        have FO := Lib.hid (show u2.heap[gO]? = some (.cells #[.int .i64 3, .string ⟨#[]⟩] 59 (0, 0)) from by rw [hO, hgO]; exact heap_alloc_new _ _)
        have FA := Lib.hid (show u2.heap[gA]? = some (.cells #[.int .u32 0, .slice none 0 0, .slice none 0 0, .int .u32 0] 34 (0, 0)) from by rw [hO]; exact (Below.heap_alloc _ _ _ (lt_of_hp FA.out)).trans FA.out)
        rw [← hO] at hHeld2 ⊢
        rw [← hgO]
        clear hK K hHeld hO hgO
        have hHeld := hHeld2
        clear hHeld2
        try simp only [Act.put, List.setIfInBounds_toArray, List.set_cons_zero, List.set_cons_succ]
        refine wpAnyH_ready (rs := [1]) (by kernel_rfl) (by simp) ?_
        refine AllReadyH.cons rfl (fun K hK => ?_) ?_
        · go_simp
          go_at_call 18
          refine (SG.out u2).mono ?_
          rintro e u3 ⟨vS, rfl, hst, hB⟩
          obtain ⟨bS, oS, cS, rfl, gS, fS, hcS⟩ := str_one hst hHeld.size
          have GS := Lib.hid gS
          have fS := Lib.hid fS
          have hcS := Lib.hid hcS
          clear gS hst
          have FA := Lib.hid ((hB.block _ (lt_of_hp FA.out)).trans FA.out)
          have FO := Lib.hid ((hB.block _ (lt_of_hp FO.out)).trans FO.out)
          refine hK.out _ _ (below_next hHeld hHeld.size hB) (fun hHeld => ?_)
          clear hK K hB
          try simp only [Act.put, List.setIfInBounds_toArray, List.set_cons_zero, List.set_cons_succ]
          refine take_at (i := 2) (d := 18) (v := ?vq18) rfl rfl (by kernel_rfl) (by kernel_rfl) (by kernel_rfl) (fun _ _ _ h => h) (Or.inl ⟨by rfl, ?yq18⟩) hHeld ?rq18
          case yq18 => (intro w hSw; go_simp; try with_reducible rfl)
          simp only [Act.put, List.setIfInBounds_toArray, List.set_cons_zero, List.set_cons_succ]
          refine wpAnyH_ready (rs := [3]) (by kernel_rfl) (by simp) ?_
          refine AllReadyH.cons rfl (fun K hK => ?_) ?_
          · go_simp
            refine hK.out _ _ (hHeld.alloc hHeld.size _) (fun hHeld2 => ?_)
            obtain ⟨u4, hI⟩ : ∃ u, u = World.alloc u3 (.cells #[.string pid, .int .u32 0, .int .u32 0, .slice (some ⟨bS, oS, none⟩) 1 cS] 68) := ⟨_, rfl⟩
            obtain ⟨gI, hgI⟩ : ∃ g, g = u3.heap.size := ⟨_, rfl⟩
            have GI := Lib.hid (show w3.heap.size ≤ gI from by rw [hgI]; exact hHeld.size)
            have FI := Lib.hid (show u4.heap[gI]? = some (.cells #[.string pid, .int .u32 0, .int .u32 0, .slice (some ⟨bS, oS, none⟩) 1 cS] 68 (0, 0)) from by rw [hI, hgI]; exact heap_alloc_new _ _)
            have FA := Lib.hid (show u4.heap[gA]? = some (.cells #[.int .u32 0, .slice none 0 0, .slice none 0 0, .int .u32 0] 34 (0, 0)) from by rw [hI]; exact (Below.heap_alloc _ _ _ (lt_of_hp FA.out)).trans FA.out)
            have FO := Lib.hid (show u4.heap[gO]? = some (.cells #[.int .i64 3, .string ⟨#[]⟩] 59 (0, 0)) from by rw [hI]; exact (Below.heap_alloc _ _ _ (lt_of_hp FO.out)).trans FO.out)
            have fS := Lib.hid (show u4.cell? ⟨bS, oS, none⟩ = some (.string sg) from by rw [hI]; exact (World.cell?_alloc_lt _ _ _ (lt_of_cell fS.out)).trans fS.out)
            rw [← hI] at hHeld2 ⊢
            rw [← hgI]
            clear hK K hHeld hI hgI
            have hHeld := hHeld2
            clear hHeld2
            try simp only [Act.put, List.setIfInBounds_toArray, List.set_cons_zero, List.set_cons_succ]
            refine take_at (i := 6) (d := 22) (v := ?vq19) rfl rfl (by kernel_rfl) (by kernel_rfl) (by kernel_rfl) (fun _ _ _ h => h) (Or.inl ⟨by rfl, ?yq19⟩) hHeld ?rq19
            case yq19 => (intro w hSw; go_simp; try with_reducible rfl)
            simp only [Act.put, List.setIfInBounds_toArray, List.set_cons_zero, List.set_cons_succ]
            refine wpAnyH_ready (rs := [8]) (by kernel_rfl) (by simp) ?_
            refine AllReadyH.cons rfl (fun K hK => ?_) ?_
            · obtain ⟨ta0, ta1, ta2, ta3, taf⟩ := box_cells FA.out
              have LF := Lib.hid (wk_leaf hHeld GA.out FA.out GI.out FI.out GO.out FO.out GS.out fS.out hcS.out HSG.out)
              go_simp
              refine hK.out _ _ ((((hHeld.setCell GA.out _).setCell GA.out _).setCell GA.out _).setCell GA.out _) (fun hHeld => ?_)
              clear hK K hHeld ta0 ta1 ta2 ta3 taf
              try simp only [Act.put, List.setIfInBounds_toArray, List.set_cons_zero, List.set_cons_succ]
              refine wpAnyH_done (by kernel_rfl) ?_ _
              go_wp2_with fail
              go_meet
              exact LF.out
            exact AllReadyH.nil
          exact AllReadyH.nil
        exact AllReadyH.nil
      exact AllReadyH.nil
    exact AllReadyH.nil
  case rest =>
    obtain ⟨g, vi, vo, rfl, hg1, hg2, hbx, htx, hbc⟩ := hcut
    obtain ⟨w4, hw4⟩ : ∃ w4, w4 = wc := ⟨_, rfl⟩
    rw [← hw4] at hg2 hbx htx hbc ⊢
    clear hw4 SG n3 n3a n3b n3c
    have z3 := Z3.out
    have z4 := hbc.size
    have z1 : w1.heap.size = w.heap.size + 2 := hz1
    have B4 := Lib.hid (below_next (below_next B1.out (by omega) (below_next B2.out B2.out.size B3.out)) (by omega) hbc)
    have S4 := Lib.hid ((S1.out.below B2.out (by omega) (by omega)).below (below_next B3.out B3.out.size hbc) (by omega) (by omega))
    have P4 := Lib.hid (And.intro ((hbc.cell (p := ⟨w2.heap.size, 0, none⟩) (by show w2.heap.size < _; omega)).trans p0) ((hbc.cell (p := ⟨w2.heap.size, 1, none⟩) (by show w2.heap.size < _; omega)).trans p1))
    have XB := Lib.hid hbx
    have XT := Lib.hid htx
    have hok : (wkT pid).Ok := wk_ok IS.out
    have HOK := Lib.hid hok
    have F1 := Lib.hid (fee_any _ _ [] (wkT pid) 1 vi vo w4 S4.out (htx.wide (Nat.zero_le _) (Nat.le_refl _)) hok)
    rw [show feA [] (wkT pid) 1 = ⟨0, 8, 0⟩ from by rw [← HP.out]; exact wk1] at F1
    obtain ⟨b0, b1, b2, b3⟩ := hbx
    clear htx hbc hok p0 p1
    go_wp2_with fail
    refine F1.out.mono ?_
    rintro e w5 ⟨v1, rfl, he1, hb5⟩
    have E1 := Lib.hid he1
    have L5 := Lib.hid hb5
    have z5 := hb5.size
    clear he1 hb5 F1 b0 b1 b2 b3
    obtain ⟨w6, hw6⟩ : ∃ w6, w6 = w5.alloc (.cells #[.int .u16 1, .int .u16 0, .int .u32 0] 101) := ⟨_, rfl⟩
    have hb6 : Below w5.heap.size w5 w6 := by rw [hw6]; exact (Below.refl _ _).alloc (Nat.le_refl _) _
    have z6 : w6.heap.size = w5.heap.size + 1 := by rw [hw6]; simp
    have hbr : Brs w6 w5.heap.size w6.heap.size (.slice (some ⟨w5.heap.size, 0, none⟩) 1 1) [⟨1, 0, 0⟩] := by
      refine ⟨_, 1, rfl, Nat.le_refl _, .inr ⟨w5.heap.size, 0, rfl, Nat.le_refl _, by omega, fun k y hy => ?_⟩⟩
      have hk0 : k = 0 := by have := (List.getElem?_eq_some_iff.1 hy).1; simp at this; omega
      subst hk0
      simp at hy
      subst hy
      rw [hw6]
      refine ⟨by simp, by simp, by simp⟩
    have CP := Lib.hid (rlput_any [⟨1, 0, 0⟩] _ w6 _ _ hbr (Nat.le_refl _) (by decide) (fun x hx => by rw [List.mem_singleton.1 hx]; exact ⟨by decide, by decide, by decide, by decide, by decide, by decide⟩))
    have HW6 := Lib.hid hw6
    have L6 := Lib.hid (below_next L5.out L5.out.size hb6)
    have H56 := Lib.hid hb6
    obtain ⟨sc, hsc⟩ : ∃ s, ptS [⟨1, 0, 0⟩] = s := ⟨_, rfl⟩
    rw [hsc] at CP
    have HSC := Lib.hid hsc
    clear hbr hw6 hb6 hsc
    go_upto_region 5 with (fail)
    go_wp2_with fail
    rw [show World.alloc w5 _ = w6 from HW6.out.symm]
    refine CP.out.mono ?_
    rintro e w7 ⟨rfl, hb7⟩
    have L7 := Lib.hid (below_next L6.out L6.out.size hb7)
    have L57 := Lib.hid (below_next H56.out H56.out.size hb7)
    have z7 := hb7.size
    have S7 := Lib.hid (S4.out.below L7.out (by omega) (by omega))
    have p0 := (L7.out.cell (p := ⟨w2.heap.size, 0, none⟩) (by show w2.heap.size < _; omega)).trans P4.out.1
    have p1 := (L7.out.cell (p := ⟨w2.heap.size, 1, none⟩) (by show w2.heap.size < _; omega)).trans P4.out.2
    have hss : sc.size ≤ 64 := by rw [← HSC.out]; exact ptS_size
    have CU := Lib.hid (Co.put_any _ _ [] ⟨pid, 0, 5, sc, 0⟩ w7 S7.out ⟨⟨by show pid.size ≤ 64; rw [IS.out]; decide, by show (0 : Int) ≤ 0; decide, by show (0 : Int) ≤ 4294967295; decide⟩, by show (-9223372036854775808 : Int) ≤ 5; decide, by show (5 : Int) ≤ 9223372036854775807; decide, hss, by show (-9223372036854775808 : Int) ≤ 0; decide, by show (0 : Int) ≤ 9223372036854775807; decide⟩)
    rw [show Co.putE [] ⟨pid, 0, 5, sc, 0⟩ = 0 from by rw [← HP.out, ← HSC.out]; exact wk3, show Co.putL [] ⟨pid, 0, 5, sc, 0⟩ = [⟨pid, 0, 5, sc, 0⟩] from by rw [← HP.out, ← HSC.out]; exact wk4] at CU
    clear hb7 CP hss
    go_wp2_with fail
    refine CU.out.mono ?_
    rintro e w8 ⟨rfl, hs8, hk8⟩
    have z8 := hk8.size
    have S8 := Lib.hid hs8
    have B7 := Lib.hid (below_next B4.out (by omega) L7.out)
    have B8 := Lib.hid (Co.But2.below B7.out hk8 (by omega) (Nat.le_refl _) (by omega))
    have K8 := Lib.hid (show ∀ k, w1.heap.size ≤ k → k < w4.heap.size → w8.heap[k]? = w4.heap[k]? from fun k h1 h2 => (hk8.block k (by omega) (by omega) (by omega)).trans (L7.out.block k h2))
    have E8 := Lib.hid ((E1.out.keep (show w5.heap.size ≤ w8.heap.size by omega) (fun b h1 h2 => (hk8.block b (by omega) (by omega) (by omega)).trans (L57.out.block b h2))))
    clear hs8 hk8 CU p0 p1
    have x0 := fun o => (World.cell?_of_block (w := w4) (a := ⟨g, o, none⟩) (K8.out g (by omega) hg2))
    have T8 := Lib.hid (XT.out.keep (show Kept w3.heap.size w4.heap.size w4 w8 from fun k h1 h2 => K8.out k (by omega) h2))
    obtain ⟨b0, b1, b2, b3⟩ := XB.out
    have b0 := (x0 0).trans b0
    have b1 := (x0 1).trans b1
    have b2 := (x0 2).trans b2
    have b3 := (x0 3).trans b3
    have F2 := Lib.hid (fee_any _ _ _ (wkT pid) 1 vi vo w8 S8.out (T8.out.wide (Nat.zero_le _) (by omega)) HOK.out)
    rw [show feA [⟨pid, 0, 5, sc, 0⟩] (wkT pid) 1 = ⟨2, 0, -1⟩ from by rw [← HP.out, ← HSC.out]; exact wk2] at F2
    clear x0
    go_wp2_with fail
    refine F2.out.mono ?_
    rintro e w9 ⟨v2, rfl, he2, hb9⟩
    have L9 := Lib.hid hb9
    have z9 := hb9.size
    obtain rfl : v2 = .nilIface := by
      rcases he2 with ⟨_, _, h⟩ | ⟨h, _⟩ | ⟨h, _⟩
      · exact h
      · exact absurd rfl h
      · exact absurd rfl h
    have E9 := Lib.hid (E8.out.below hb9)
    have F3 := Lib.hid (fee_nil (wkT pid) 1 vi vo w9)
    have b0 := (hb9.cell (p := ⟨g, 0, none⟩) (by show g < _; omega)).trans b0
    have b1 := (hb9.cell (p := ⟨g, 1, none⟩) (by show g < _; omega)).trans b1
    have b2 := (hb9.cell (p := ⟨g, 2, none⟩) (by show g < _; omega)).trans b2
    have b3 := (hb9.cell (p := ⟨g, 3, none⟩) (by show g < _; omega)).trans b3
    clear he2 hb9 F2
    go_wp2_with fail
    refine F3.out.mono ?_
    rintro e wa ⟨v3, rfl, he3, hba⟩
    have za := hba.size
    have EA := Lib.hid (E9.out.below hba)
    have E3 := Lib.hid he3
    have BA := Lib.hid (below_next (below_next B8.out (by omega) L9.out) (by omega) hba)
    have DA := Lib.hid (hd.below BA.out hd.lt)
    clear he3 hba F3 b0 b1 b2 b3
    have I1 := Lib.hid (is_err (f := 8) EA.out (by decide))
    have PL := Lib.hid (place_err EA.out DA.out)
    have hn := eql_none
    go_wp2_with fail
    refine I1.out.mono ?_
    rintro e wb ⟨rfl, rfl⟩
    go_wp2_with fail
    refine PL.out.mono ?_
    rintro e wb2 ⟨rfl, hbb⟩
    have I3 := Lib.hid (is_err (f := 1) (E3.out.below hbb) (by decide))
    have BB := Lib.hid (below_next BA.out (by omega) hbb)
    clear hbb I1 PL
    go_wp2_with fail
    refine I3.out.mono ?_
    rintro e wb3 ⟨rfl, rfl⟩
    go_wp2_with fail
    go_ret
    exact ⟨rfl, BB.out⟩

end Go.Proofs.YtjclklppnkoehaaGreatDoor
