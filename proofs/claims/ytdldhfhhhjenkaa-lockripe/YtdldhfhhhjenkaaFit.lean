/-
  The document's Fit: some transaction of few parts, each within its bounds, in memory of the call's own.
  The document's Fit, walked.
  A row of two transactions: a Cut and a Fit of one, in whatever order they were made.
-/
import Derived.Test.YtdldhfhhhjenkaaGmut
import Derived.Test.YtdldhfhhhjenkaaIdn
import Derived.Test.YtdldhfhhhjenkaaTcw
import Derived.BigRegion
import Derived.StillTailTactics
import Derived.Deep.RegionWith

namespace Go.Proofs.Ytdldhfhhhjenkaa
open Go.RowKit

/-- An input of the row, by its cells. -/
theorem FitI.get {w : World} {lo hi : Nat} {A : Option Addr} {n k : Nat} (h : FitI w lo hi A n) (hk : k < n) :
    ∃ g, A = some ⟨g, 0, none⟩ ∧ lo ≤ g ∧ g < hi ∧ (∀ o, w.frozen? ⟨g, o, none⟩ = false) ∧ (∃ s : ByteArray, w.cell? ⟨g, k * 4, none⟩ = some (.string s) ∧ s.size ≤ 64) ∧
      ∃ B m c, w.cell? ⟨g, k * 4 + 3, none⟩ = some (.slice B m c) ∧ m ≤ 8 ∧ m ≤ c ∧ MutS w lo hi 128 (.slice B m c) m := by
  rcases h with h | ⟨g, cur, rfl, h1, h2, hg, h⟩
  · omega
  · obtain ⟨a0, _, _, u, m, a3, hm, hs⟩ := h k hk
    obtain ⟨B, c, rfl, hc, hr⟩ := id hs
    exact ⟨g, rfl, h1, h2, fun o => free_of hg o, a0, B, m, c, a3, hm, hc, hs⟩
theorem FitI.at {w : World} {lo hi g : Nat} {n k : Nat} (h : FitI w lo hi (some ⟨g, 0, none⟩) n) (hk : k < n) :
    (∀ o, w.frozen? ⟨g, o, none⟩ = false) ∧ (∃ s : ByteArray, w.cell? ⟨g, k * 4, none⟩ = some (.string s) ∧ s.size ≤ 64) ∧
      ∃ B m c, w.cell? ⟨g, k * 4 + 3, none⟩ = some (.slice B m c) ∧ m ≤ 8 ∧ m ≤ c ∧ MutS w lo hi 128 (.slice B m c) m := by
  obtain ⟨g', hA, _, _, h⟩ := h.get hk
  injection hA with hA
  injection hA with e1
  subst e1
  exact h
theorem MutS.at {w : World} {lo hi M : Nat} {B : Option Addr} {m c j : Nat} (h : MutS w lo hi M (.slice B m c) m) (hj : j < m) :
    ∃ g cur, B = some ⟨g, 0, none⟩ ∧ lo ≤ g ∧ g < hi ∧ w.heap[g]? = some (.cells cur 9 (0, 0)) ∧ ∃ s : ByteArray, w.cell? ⟨g, j, none⟩ = some (.string s) ∧ s.size ≤ M := by
  obtain ⟨A, c', hv, hc, h⟩ := h
  injection hv with hA
  subst hA
  rcases h with h | ⟨g, cur, rfl, h1, h2, hg, h⟩
  · omega
  · exact ⟨g, cur, rfl, h1, h2, hg, h j hj⟩
theorem MutS.less {w : World} {lo hi M : Nat} {B : Option Addr} {m c m' : Nat} (h : MutS w lo hi M (.slice B m c) m) (hm : m' ≤ m) : MutS w lo hi M (.slice B m' c) m' := by
  obtain ⟨A, c', hv, hc, h⟩ := h
  injection hv with hA _ hc'
  subst hA hc'
  refine ⟨_, _, rfl, by omega, ?_⟩
  rcases h with h | ⟨g, cur, rfl, h1, h2, hg, h⟩
  · exact .inl (by omega)
  · exact .inr ⟨g, cur, rfl, h1, h2, hg, fun j hj => h j (by omega)⟩
theorem FitO.get {w : World} {lo hi : Nat} {A : Option Addr} {n k : Nat} (h : FitO w lo hi A n) (hk : k < n) :
    ∃ g cur, A = some ⟨g, 0, none⟩ ∧ lo ≤ g ∧ g < hi ∧ w.heap[g]? = some (.cells cur 87 (0, 0)) ∧ (∃ q, w.cell? ⟨g, k * 2, none⟩ = some (.int .i64 q) ∧ -9223372036854775808 ≤ q ∧ q ≤ 9223372036854775807) ∧ (∃ s : ByteArray, w.cell? ⟨g, k * 2 + 1, none⟩ = some (.string s) ∧ s.size ≤ 64) := by
  rcases h with h | ⟨g, cur, rfl, h1, h2, hg, h⟩
  · omega
  · exact ⟨g, cur, rfl, h1, h2, hg, h k hk⟩
theorem FitO.at {w : World} {lo hi g : Nat} {n k : Nat} (h : FitO w lo hi (some ⟨g, 0, none⟩) n) (hk : k < n) :
    ∃ cur, w.heap[g]? = some (.cells cur 87 (0, 0)) ∧ (∃ q, w.cell? ⟨g, k * 2, none⟩ = some (.int .i64 q) ∧ -9223372036854775808 ≤ q ∧ q ≤ 9223372036854775807) ∧ (∃ s : ByteArray, w.cell? ⟨g, k * 2 + 1, none⟩ = some (.string s) ∧ s.size ≤ 64) := by
  obtain ⟨g', cur, hA, _, _, h⟩ := h.get hk
  injection hA with hA
  injection hA with e1
  subst e1
  exact ⟨cur, h⟩
/-- A write to a block of another type leaves the outputs, or the inputs. -/
theorem FitO.past {w : World} {lo hi : Nat} {A : Option Addr} {n : Nat} (h : FitO w lo hi A n) {g o : Nat} {v : Value} {cur : Array Value} {e : TypeId} (hg : w.heap[g]? = some (.cells cur e (0, 0))) (he : e ≠ 87) : FitO (w.setCell ⟨g, o, none⟩ v) lo hi A n :=
  h.keep fun _ _ _ _ hb => Below.heap_setCell _ _ _ _ (blk_type hb hg (Ne.symm he))
theorem FitI.past {w : World} {lo hi : Nat} {A : Option Addr} {n : Nat} (h : FitI w lo hi A n) {g o : Nat} {v : Value} {cur : Array Value} {e : TypeId} (hg : w.heap[g]? = some (.cells cur e (0, 0))) (h1 : e ≠ 66) (h2 : e ≠ 9) : FitI (w.setCell ⟨g, o, none⟩ v) lo hi A n :=
  h.keep (fun _ _ _ _ hb => Below.heap_setCell _ _ _ _ (blk_type hb hg (Ne.symm h1))) (fun _ _ _ _ hb => Below.heap_setCell _ _ _ _ (blk_type hb hg (Ne.symm h2)))
theorem FitI.blk {w : World} {lo hi g n k : Nat} (h : FitI w lo hi (some ⟨g, 0, none⟩) n) (hk : k < n) : ∃ cur, w.heap[g]? = some (.cells cur 66 (0, 0)) := by
  rcases h with h | ⟨g', cur, hA, h1, h2, hg, h⟩
  · omega
  · injection hA with hA
    injection hA with e1
    subst e1
    exact ⟨cur, hg⟩

theorem FitT.setId {w : World} {tv tl : Int} {n m lo hi g k : Nat} {Ao : Option Addr} {ci co : Nat} {wr : World} (h : FitT w tv tl n m lo hi (some ⟨g, 0, none⟩) Ao ci co wr) (h1 : lo ≤ g) (h2 : g < hi) (hk : k < n) {s : ByteArray} (hs : s.size ≤ 64) : FitT w tv tl n m lo hi (some ⟨g, 0, none⟩) Ao ci co (wr.setCell ⟨g, k * 4, none⟩ (.string s)) := by
  obtain ⟨cur, hg⟩ := h.fi.blk hk
  exact h.write h1 h2 (h.fi.setId hs) (h.fo.past hg (by decide))
theorem FitT.setWit {w : World} {tv tl : Int} {n m lo hi g k : Nat} {Ao : Option Addr} {ci co : Nat} {wr : World} (h : FitT w tv tl n m lo hi (some ⟨g, 0, none⟩) Ao ci co wr) (h1 : lo ≤ g) (h2 : g < hi) (hk : k < n) {u : Value} {m' : Nat} (hm : m' ≤ 8) (hu : MutS wr lo hi 128 u m') : FitT w tv tl n m lo hi (some ⟨g, 0, none⟩) Ao ci co (wr.setCell ⟨g, k * 4 + 3, none⟩ u) := by
  obtain ⟨cur, hg⟩ := h.fi.blk hk
  exact h.write h1 h2 (h.fi.setWit hm hu) (h.fo.past hg (by decide))
theorem FitT.setStr {w : World} {tv tl : Int} {n m lo hi g j : Nat} {Ai Ao : Option Addr} {ci co : Nat} {wr : World} (h : FitT w tv tl n m lo hi Ai Ao ci co wr) (h1 : lo ≤ g) (h2 : g < hi) {cur : Array Value} (hg : wr.heap[g]? = some (.cells cur 9 (0, 0))) {s : ByteArray} (hs : s.size ≤ 128) : FitT w tv tl n m lo hi Ai Ao ci co (wr.setCell ⟨g, j, none⟩ (.string s)) :=
  h.write h1 h2 (h.fi.setStr hg hs) (h.fo.past hg (by decide))
theorem FitT.setVal {w : World} {tv tl : Int} {n m lo hi g k : Nat} {Ai : Option Addr} {ci co : Nat} {wr : World} (h : FitT w tv tl n m lo hi Ai (some ⟨g, 0, none⟩) ci co wr) (h1 : lo ≤ g) (h2 : g < hi) (hk : k < m) {q : Int} (hq : -9223372036854775808 ≤ q ∧ q ≤ 9223372036854775807) : FitT w tv tl n m lo hi Ai (some ⟨g, 0, none⟩) ci co (wr.setCell ⟨g, k * 2, none⟩ (.int .i64 q)) := by
  obtain ⟨cur, hg, _⟩ := h.fo.at hk
  exact h.write h1 h2 (h.fi.past hg (by decide) (by decide)) (h.fo.setVal hq)
theorem FitT.setScr {w : World} {tv tl : Int} {n m lo hi g k : Nat} {Ai : Option Addr} {ci co : Nat} {wr : World} (h : FitT w tv tl n m lo hi Ai (some ⟨g, 0, none⟩) ci co wr) (h1 : lo ≤ g) (h2 : g < hi) (hk : k < m) {s : ByteArray} (hs : s.size ≤ 64) : FitT w tv tl n m lo hi Ai (some ⟨g, 0, none⟩) ci co (wr.setCell ⟨g, k * 2 + 1, none⟩ (.string s)) := by
  obtain ⟨cur, hg, _⟩ := h.fo.at hk
  exact h.write h1 h2 (h.fi.past hg (by decide) (by decide)) (h.fo.setScr hs)

end Go.Proofs.Ytdldhfhhhjenkaa

namespace Go.Proofs.Ytdldhfhhhjenkaa
open Go.RowKit

theorem RowI.wide {w : World} {lo hi lo' hi' : Nat} {A : Option Addr} {xs : List InD} (h : RowI w lo hi A xs) (h1 : lo' ≤ lo) (h2 : hi ≤ hi') : RowI w lo' hi' A xs := by
  rcases h with h | ⟨g, cur, rfl, h3, h4, hg, h⟩
  · exact .inl h
  · exact .inr ⟨g, cur, rfl, by omega, by omega, hg, fun j x hx => (h j x hx).wide h1 h2⟩
theorem RowO.wide {w : World} {lo hi lo' hi' : Nat} {A : Option Addr} {xs : List OutD} (h : RowO w lo hi A xs) (h1 : lo' ≤ lo) (h2 : hi ≤ hi') : RowO w lo' hi' A xs := by
  rcases h with h | ⟨g, cur, rfl, h3, h4, hg, h⟩
  · exact .inl h
  · exact .inr ⟨g, cur, rfl, by omega, by omega, hg, h⟩

/-- What Fit answers. -/
def FitGives (w : World) (e : Ending) (w' : World) : Prop :=
  ∃ (u : TxD) (Ai Ao : Option Addr) (ci co : Nat), e = .returned (.agg #[.int .u32 u.ver, .slice Ai u.ins.length ci, .slice Ao u.outs.length co, .int .u32 u.lock]) ∧ u.Ok ∧ u.ins.length ≤ 8 ∧ u.outs.length ≤ 8 ∧ u.ins.length ≤ ci ∧ u.outs.length ≤ co ∧
    RowI w' w.heap.size w'.heap.size Ai u.ins ∧ RowO w' w.heap.size w'.heap.size Ao u.outs ∧ Below w.heap.size w w'

set_option maxHeartbeats 4000000 in
set_option maxRecDepth 100000 in
theorem fit_any (t : TxD) (vi vo : Value) (w : World) (hi : Nat) (ht : TxAt w 0 hi vi vo t) (hhi : hi ≤ w.heap.size) (hc : t.Came) :
    Calls Try.prog 34 #[.agg #[.int .u32 t.ver, vi, vo, .int .u32 t.lock]] w (FitGives w) := by
  have HK := Lib.hid (cut_ok hc (m := 8) (by omega))
  have hn8 : (cutTx 8 t).ins.length ≤ 8 := by simp [cutTx]; omega
  have hm8 : (cutTx 8 t).outs.length ≤ 8 := by simp [cutTx]; omega
  obtain ⟨A1, m1, rfl⟩ := ht.1.form
  obtain ⟨A2, m2, rfl⟩ := ht.2.form
  have HT := Lib.hid ht
  have HC := Lib.hid hc
  have B0 := Lib.hid (fun o o' => ((Below.refl w.heap.size w).alloc (Nat.le_refl _) o).alloc (by simp) o')
  clear ht hc
  go_enter Try.func34, Try.ntmps34
  go_wp2_with fail
  refine (cut_more t 8 _ _ _ hi (HT.out.keep (Kept.of_below (B0.out _ _) hhi)) (by simp; omega) (by omega) (came_ins HC.out) (came_outs HC.out) (came_wit HC.out)).mono ?_
  rintro e w1 ⟨ui, uo, rfl, ⟨h1, h2⟩, hb1, hz1⟩
  obtain ⟨Ai, ci, rfl⟩ := h1.ins.form
  obtain ⟨Ao, co, rfl⟩ := h2.outs.form
  have hb2 : ∃ z0 z1 z2 z3, Open w1 (w.heap.size + 1) z0 z1 z2 z3 := ⟨_, _, _, _, (Open.new' _ _ _ _ _ _ _ (by simp)).keep (hb1.block _ (by simp))⟩
  have hbw := below_next (B0.out _ _) (by simp; omega) hb1
  simp only [World.size_alloc] at hz1 h1 h2
  have FI := FitI.of_own h1 HK.out.2.2.1
  have FO := FitO.of_own h2 HK.out.2.2.2.1
  have hci : (cutTx 8 t).ins.length ≤ ci := by obtain ⟨_, _, hv, hc, _⟩ := h1.ins; injection hv with _ _ e; omega
  have hco : (cutTx 8 t).outs.length ≤ co := by obtain ⟨_, _, hv, hc, _⟩ := h2.outs; injection hv with _ _ e; omega
  have hv1 := HK.out.2.2.2.2
  generalize (cutTx 8 t).ins.length = n at *
  generalize (cutTx 8 t).outs.length = m at *
  have F0 : FitT w t.ver t.lock n m (w.heap.size + 1 + 1 + 3) w1.heap.size Ai Ao ci co (w1.alloc (.cells #[.int .u32 t.ver, .slice Ai n ci, .slice Ao m co, .int .u32 t.lock] 53)) := by
    obtain ⟨z0, z1, z2, z3, hz⟩ := hb2
    exact ⟨Open.new _ _ _ _ _ _, ⟨z0, z1, z2, z3, hz.past _ (by omega)⟩, FI.keep (StayE.alloc _ (Nat.le_refl _)) (StayE.alloc _ (Nat.le_refl _)), FO.keep (StayE.alloc _ (Nat.le_refl _)), hbw.alloc hbw.size _, by simp only [World.size_alloc]; omega⟩
  have HF0 := Lib.hid F0
  have HV := Lib.hid (show 0 ≤ t.ver ∧ t.ver ≤ 4294967295 ∧ 0 ≤ t.lock ∧ t.lock ≤ 4294967295 from hv1)
  obtain ⟨lo, hlo⟩ : ∃ lo, lo = w.heap.size + 1 + 1 + 3 := ⟨_, rfl⟩
  rw [← hlo] at HF0
  obtain ⟨tv, ti, tz, tl⟩ := t
  clear hb1 hbw h1 h2 FI FO F0 hb2 B0 HK HT HC hv1
  go_wp2_with fail
  go_loopg [4, 5] n (fun gg s _ wr => ∃ k : Nat, k ≤ n ∧ n - k ≤ gg ∧ s = .int .i64 k ∧ Hid (FitT w tv tl n m lo w1.heap.size Ai Ao ci co wr))
  case atStart => exact ⟨0, Nat.zero_le _, by omega, rfl, HF0⟩
  case round =>
    obtain ⟨wo, hwo⟩ : ∃ wo, wo = wr := ⟨_, rfl⟩
    subst hwo
    obtain ⟨k, hk, hg, rfl, HF⟩ := hrel
    obtain ⟨⟨a0, a1, a2, a3⟩, _⟩ := HF.out.b3
    by_cases hlt : k < n
    · have k1 : (k : Int) < (n : Int) := by omega
      have k2 : decide (k < n) = true := decide_eq_true hlt
      obtain ⟨g, rfl, g1, g2, fz, ⟨s, d0, hs⟩, B, m3, c3, d3, hm3, hc3, hms⟩ := HF.out.fi.get hlt
      have HMS := Lib.hid hms
      clear hms
      go_upto_if 25 with fail
      clear HF0
      go_cut [] (fun wx => Hid (FitT w tv tl n m lo w1.heap.size (some ⟨g, 0, none⟩) Ao ci co wx))
      case first =>
        by_cases h32 : s.size = 32
        · have e1 : ((s.size : Int) != 32) = false := by rw [bne_eq_false_iff_eq]; omega
          go_wp2_with fail
          go_meet
          exact HF
        · have e1 : ((s.size : Int) != 32) = true := by rw [bne_iff_ne]; omega
          have hz := HF.out.le
          have z1 : w1.heap.size < wo.heap.size := hz.2.2
          have z2 : g < wo.heap.size := by omega
          have f0 := fz (k * 4)
          have v1 : IntKind.i64.wrap (7 * (s.size : Int)) = 7 * (s.size : Int) := IntWalk.i64_in _ (by omega)
          have v2 : IntKind.i64.wrap (7 * (s.size : Int) + (k : Int)) = 7 * (s.size : Int) + (k : Int) := IntWalk.i64_in _ (by omega)
          clear hs
          go_wp2_with fail
          go_region_with (go_at_call 44; refine (id_any _ _).mono ?_; rintro e w3 ⟨s', rfl, hs', hb3⟩; have HB3 := Lib.hid hb3; have HS3 := Lib.hid hs'; have y1 := (hb3.cell (p := ⟨w1.heap.size, 1, none⟩) z1).trans a1; have y0 := (hb3.cell (p := ⟨g, k * 4, none⟩) z2).trans d0; have yf := (hb3.frozen (p := ⟨g, k * 4, none⟩) z2).trans f0; clear hb3 hs')
          all_goals go_wp2_with fail
          all_goals go_meet
          all_goals exact (HF.out.drew.below HB3.out).setId g1 g2 hlt (by have := HS3.out; omega)
      case rest =>
        clear a0 a1 a2 a3 d0 d3 fz HMS hs HF
        obtain ⟨⟨a0, a1, a2, a3⟩, _⟩ := hcut.out.b3
        obtain ⟨fz, ⟨s2, d0, hs⟩, B, m3, c3, d3, hm3, hc3, hms⟩ := hcut.out.fi.at hlt
        have HMS := Lib.hid hms
        have HF := Lib.hid hcut.out
        clear hms hcut
        go_upto_if 51 with fail
        go_cut [] (fun wx => Hid (FitT w tv tl n m lo w1.heap.size (some ⟨g, 0, none⟩) Ao ci co wx))
        case first =>
          by_cases h4 : 4 < m3
          · have e1 : (4 : Int) < (m3 : Int) := by omega
            have e2 : (4 : Int) ≤ (c3 : Int) := by omega
            have e3 : 4 ≤ c3 := by omega
            have f3 := fz (k * 4 + 3)
            go_wp2_with fail
            go_region
            all_goals go_wp2_with fail
            all_goals go_meet
            all_goals exact HF.out.drew.setWit g1 g2 hlt (by omega) (HMS.out.less (by omega))
          · have e1 : ¬ (4 : Int) < (m3 : Int) := by omega
            go_wp2_with fail
            go_meet
            exact HF
        case rest =>
          clear a0 a1 a2 a3 d0 d3 fz HMS hs HF
          have HF := Lib.hid hcut.out
          clear hcut
          go_wp2_with fail
          go_loopg [5] 8 (fun gg s wr => ∃ j : Nat, j ≤ 8 ∧ 8 - j ≤ gg ∧ s = .int .i64 j ∧ Hid (FitT w tv tl n m lo w1.heap.size (some ⟨g, 0, none⟩) Ao ci co wr))
          case atStart => exact ⟨0, Nat.zero_le _, by omega, rfl, HF⟩
          case round =>
            clear HF
            obtain ⟨j, hj, hgj, rfl, HF⟩ := hrel
            obtain ⟨⟨a0, a1, a2, a3⟩, _⟩ := HF.out.b3
            obtain ⟨fz, ⟨s2, d0, hs⟩, B, m3, c3, d3, hm3, hc3, hms⟩ := HF.out.fi.at hlt
            by_cases hjm : j < m3
            · have j1 : (j : Int) < (m3 : Int) := by omega
              have j2 : decide (j < m3) = true := decide_eq_true hjm
              obtain ⟨g', cur, rfl, p1, p2, hgh, s3, d4, hs3⟩ := hms.at hjm
              have fz4 := free_of hgh j
              have HGH := Lib.hid hgh
              clear hms hgh fz
              by_cases h80 : 80 < s3.size
              · have e1 : (80 : Int) < (s3.size : Int) := by omega
                have e2 : (80 : Int) ≤ (s3.size : Int) := by omega
                have e3 : 80 ≤ s3.size := by omega
                go_wp2_with fail
                go_region
                all_goals go_wp2_with fail
                all_goals go_roundg (8 - (j + 1))
                case measure => omega
                case rel => exact ⟨j + 1, by omega, by omega, by go_num, HF.out.drew.setStr p1 p2 HGH.out (by simp [ByteArray.size_extract]; omega)⟩
              · have e1 : ¬ (80 : Int) < (s3.size : Int) := by omega
                go_wp2_with fail
                go_roundg (8 - (j + 1))
                case measure => omega
                case rel => exact ⟨j + 1, by omega, by omega, by go_num, HF⟩
            · have j1 : ¬ (j : Int) < (m3 : Int) := by omega
              clear hms
              go_wp2_with fail
              go_roundg (n - (k + 1))
              case measure => omega
              case rel => exact ⟨k + 1, by omega, by omega, by go_num, HF⟩
    · have k1 : ¬ (k : Int) < (n : Int) := by omega
      clear HF0
      go_wp2_with fail
      go_loopg [6, 7] m (fun gg s _ wr => ∃ j : Nat, j ≤ m ∧ m - j ≤ gg ∧ s = .int .i64 j ∧ Hid (FitT w tv tl n m lo w1.heap.size Ai Ao ci co wr))
      case atStart => exact ⟨0, Nat.zero_le _, by omega, rfl, HF⟩
      case round =>
        clear HF a0 a1 a2 a3
        obtain ⟨j, hj, hgj, rfl, HF⟩ := hrel
        obtain ⟨⟨a0, a1, a2, a3⟩, _⟩ := HF.out.b3
        by_cases hjm : j < m
        · have j1 : (j : Int) < (m : Int) := by omega
          have j2 : decide (j < m) = true := decide_eq_true hjm
          obtain ⟨g', cur, rfl, p1, p2, hgh, ⟨q, d0, hq⟩, ⟨s3, d4, hs3⟩⟩ := HF.out.fo.get hjm
          go_upto_if 119 with fail
          obtain ⟨v, hv, v1, v2⟩ : ∃ v, q.tmod 100000000000000 = v ∧ -100000000000000 < v ∧ v < 100000000000000 := ⟨_, rfl, by have := Int.lt_tmod_of_pos q (b := 100000000000000) (by omega); omega, Int.tmod_lt_of_pos q (by omega)⟩
          rw [hv]
          obtain ⟨wb, hwb⟩ : ∃ wb, wb = wr := ⟨_, rfl⟩
          subst hwb
          go_cut [7] (fun v7 wx => ∃ x : Int, v7 = .int .i64 x ∧ -100000000000000 < x ∧ x < 100000000000000 ∧ wx = wb)
          case first =>
            have hneg : IntKind.i64.wrap (-v) = -v := IntWalk.i64_in _ (by omega)
            by_cases h0 : v < 0
            · go_wp2_with fail
              go_meet
              exact ⟨-v, rfl, by omega, by omega, rfl⟩
            · go_wp2_with fail
              go_meet
              exact ⟨v, rfl, by omega, by omega, rfl⟩
          case rest =>
            obtain ⟨x, rfl, x1, x2, rfl⟩ := hcut
            have f0 := free_of hgh (j * 2)
            clear hgh hv v1 v2 hq
            go_upto_region 20 with (fail)
            go_cut [] (fun wx => Hid (FitT w tv tl n m lo w1.heap.size Ai (some ⟨g', 0, none⟩) ci co wx))
            case first =>
              go_wp2_with fail
              go_meet
              exact HF.out.setVal p1 p2 hjm (by omega)
            case rest =>
              clear HF a0 a1 a2 a3 d0 d4 hs3 f0
              obtain ⟨⟨a0, a1, a2, a3⟩, _⟩ := hcut.out.b3
              obtain ⟨cur, hgh, _, ⟨s3, d4, hs3⟩⟩ := hcut.out.fo.at hjm
              have f0 := free_of hgh (j * 2 + 1)
              have HF := Lib.hid hcut.out
              clear hgh hcut
              by_cases h40 : 40 < s3.size
              · have e1 : (40 : Int) < (s3.size : Int) := by omega
                have e2 : (40 : Int) ≤ (s3.size : Int) := by omega
                have e3 : 40 ≤ s3.size := by omega
                go_wp2_with fail
                go_region
                all_goals go_wp2_with fail
                all_goals go_roundg (m - (j + 1))
                case measure => omega
                case rel => exact ⟨j + 1, by omega, by omega, by go_num, HF.out.drew.setScr p1 p2 hjm (by simp [ByteArray.size_extract]; omega)⟩
              · have e1 : ¬ (40 : Int) < (s3.size : Int) := by omega
                go_wp2_with fail
                go_roundg (m - (j + 1))
                case measure => omega
                case rel => exact ⟨j + 1, by omega, by omega, by go_num, HF⟩
        · have j1 : ¬ (j : Int) < (m : Int) := by omega
          obtain ⟨z0, z1, z2, z3, ⟨e0, e1, e2, e3⟩, fe⟩ := HF.out.b2
          have f0 := fe 0
          have f1 := fe 1
          have f2 := fe 2
          have f3 := fe 3
          have hle := HF.out.le
          have st : ∀ e, StayE lo w1.heap.size e wr (put4 wr (w.heap.size + 1) (.int .u32 tv) (.slice Ai n ci) (.slice Ao m co) (.int .u32 tl)) := fun e => StayE.put4 (.inl (by omega)) _ _ _ _
          have P1 := Lib.hid (HF.out.fi.keep (st 66) (st 9)).list
          have P2 := Lib.hid (HF.out.fo.keep (st 87)).list
          have P3 := Lib.hid (put4_below HF.out.bel (show w.heap.size ≤ w.heap.size + 1 by omega) (.int .u32 tv) (.slice Ai n ci) (.slice Ao m co) (.int .u32 tl))
          have P4 := Lib.hid (put4_size wr (w.heap.size + 1) (.int .u32 tv) (.slice Ai n ci) (.slice Ao m co) (.int .u32 tl))
          clear st
          go_wp2_with fail
          refine bodyPost_ret (v := .agg #[.int .u32 tv, .slice Ai n ci, .slice Ao m co, .int .u32 tl]) (by simp [results, Try.results34, go_sem, e0, e1, e2, e3]) rfl ?_
          obtain ⟨xs, hx1, hx2, hx3⟩ := P1.out
          obtain ⟨ys, hy1, hy2, hy3⟩ := P2.out
          have hz := P4.out
          have hv := HV.out
          have hP := P3.out
          subst hx1 hy1
          exact ⟨⟨tv, xs, ys, tl⟩, Ai, Ao, ci, co, rfl, ⟨by simp only; omega, by simp only; omega, hx3, hy3, hv⟩, hn8, hm8, hci, hco, hx2.wide (by omega) (by show _ ≤ (put4 _ _ _ _ _ _).heap.size; omega), hy2.wide (by omega) (by show _ ≤ (put4 _ _ _ _ _ _).heap.size; omega), hP⟩

end Go.Proofs.Ytdldhfhhhjenkaa

namespace Go.Proofs.Ytdldhfhhhjenkaa
open Go.RowKit

/-- The transactions of a row, each in its four cells of the block g. -/
def RowTx (wx : World) (g n : Nat) : Prop := ∀ k, k < n → ∃ (u : TxD) (Ai Ao : Option Addr) (ci co : Nat), wx.cell? ⟨g, k * 4, none⟩ = some (.int .u32 u.ver) ∧ wx.cell? ⟨g, k * 4 + 1, none⟩ = some (.slice Ai u.ins.length ci) ∧ wx.cell? ⟨g, k * 4 + 2, none⟩ = some (.slice Ao u.outs.length co) ∧ wx.cell? ⟨g, k * 4 + 3, none⟩ = some (.int .u32 u.lock) ∧
  TxAt wx 0 wx.heap.size (.slice Ai u.ins.length ci) (.slice Ao u.outs.length co) u ∧ u.Ok
theorem RowTx.below {wx wy : World} {g n : Nat} (h : RowTx wx g n) (hg : g < wx.heap.size) (hb : Below wx.heap.size wx wy) : RowTx wy g n := by
  intro k hk
  obtain ⟨u, Ai, Ao, ci, co, c0, c1, c2, c3, ht, ho⟩ := h k hk
  have f := fun o => hb.cell (p := ⟨g, o, none⟩) hg
  exact ⟨u, Ai, Ao, ci, co, (f _).trans c0, (f _).trans c1, (f _).trans c2, (f _).trans c3, (ht.keep (Kept.of_below hb (Nat.le_refl _))).wide (Nat.le_refl _) hb.size, ho⟩

/-- Where a statement stands that has such a row. -/
structure RowS (w : World) (g n : Nat) (wx : World) : Prop where
  row : RowTx wx g n
  lt : g < wx.heap.size
  bel : Below w.heap.size w wx
theorem RowS.below {w wx wy : World} {g n : Nat} (h : RowS w g n wx) (hb : Below wx.heap.size wx wy) : RowS w g n wy :=
  ⟨h.row.below h.lt hb, by have := hb.size; have := h.lt; omega, below_next h.bel h.bel.size hb⟩

/-- What a call gives: a transaction, in memory. -/
def TxGives (w W0 : World) (t : TxD) (vi vo : Value) (W : World) (e : Ending) (w' : World) : Prop :=
  ∃ (u : TxD) (Ai Ao : Option Addr) (ci co : Nat), e = .returned (.agg #[.int .u32 u.ver, .slice Ai u.ins.length ci, .slice Ao u.outs.length co, .int .u32 u.lock]) ∧
    (TxAt w' 0 w'.heap.size (.slice Ai u.ins.length ci) (.slice Ao u.outs.length co) u ∧ u.Ok) ∧ Below W.heap.size W w' ∧ Below W0.heap.size W0 w' ∧ T_Boxed w' w.heap.size (.int .u32 t.ver) vi vo (.int .u32 t.lock)
theorem cut_tx {w W0 : World} {t : TxD} {vi vo : Value} (hb : T_Boxed W0 w.heap.size (.int .u32 t.ver) vi vo (.int .u32 t.lock)) (h0 : W0.heap.size = w.heap.size + 1) (hx : TxAt W0 0 w.heap.size vi vo t) (hc : t.Came) (W : World) (hW : Below W0.heap.size W0 W) :
    Calls Try.prog 43 #[.agg #[.int .u32 t.ver, vi, vo, .int .u32 t.lock], .int .i64 12] W (TxGives w W0 t vi vo W) := by
  have hs := hW.size
  refine (cut_more t 12 vi vo W w.heap.size (hx.keep (Kept.of_below hW (by omega))) (by omega) (by omega) (came_ins hc) (came_outs hc) (came_wit hc)).mono ?_
  rintro e w' ⟨vi', vo', rfl, ⟨h1, h2⟩, hb', h3⟩
  obtain ⟨Ai, ci, rfl⟩ := h1.ins.form
  obtain ⟨Ao, co, rfl⟩ := h2.outs.form
  have hn := below_next hW hs hb'
  exact ⟨cutTx 12 t, Ai, Ao, ci, co, rfl, ⟨⟨h1.ins.wide (Nat.zero_le _) (Nat.le_refl _), h2.outs.wide (Nat.zero_le _) (Nat.le_refl _)⟩, cut_ok hc (by omega)⟩, hb', hn, hb.below (by omega) hn⟩
theorem fit_tx {w W0 : World} {t : TxD} {vi vo : Value} (hb : T_Boxed W0 w.heap.size (.int .u32 t.ver) vi vo (.int .u32 t.lock)) (h0 : W0.heap.size = w.heap.size + 1) (hx : TxAt W0 0 w.heap.size vi vo t) (hc : t.Came) (W : World) (hW : Below W0.heap.size W0 W) :
    Calls Try.prog 34 #[.agg #[.int .u32 t.ver, vi, vo, .int .u32 t.lock]] W (TxGives w W0 t vi vo W) := by
  have hs := hW.size
  refine (fit_any t vi vo W w.heap.size (hx.keep (Kept.of_below hW (by omega))) (by omega) hc).mono ?_
  rintro e w' ⟨u, Ai, Ao, ci, co, rfl, hok, _, _, hci, hco, h1, h2, hb'⟩
  have hn := below_next hW hs hb'
  exact ⟨u, Ai, Ao, ci, co, rfl, ⟨⟨(h1.ins hci).wide (Nat.zero_le _) (Nat.le_refl _), (h2.outs hco).wide (Nat.zero_le _) (Nat.le_refl _)⟩, hok⟩, hb', hn, hb.below (by omega) hn⟩

theorem row_two {w W0 wa wb : World} {a b : TxD} {Ai Ao Bi Bo : Option Addr} {ai ao bi bo : Nat} {W : World}
    (h1 : TxAt wa 0 wa.heap.size (.slice Ai a.ins.length ai) (.slice Ao a.outs.length ao) a ∧ a.Ok) (h2 : TxAt wb 0 wb.heap.size (.slice Bi b.ins.length bi) (.slice Bo b.outs.length bo) b ∧ b.Ok)
    (ka : Kept 0 wa.heap.size wa W) (kb : Kept 0 wb.heap.size wb W) (la : wa.heap.size ≤ W.heap.size) (lb : wb.heap.size ≤ W.heap.size) (hB : Below W0.heap.size W0 W) (h0 : Below w.heap.size w W0) :
    RowS w W.heap.size 2 (W.alloc (.cells #[.int .u32 a.ver, .slice Ai a.ins.length ai, .slice Ao a.outs.length ao, .int .u32 a.lock, .int .u32 b.ver, .slice Bi b.ins.length bi, .slice Bo b.outs.length bo, .int .u32 b.lock] 53)) := by
  refine ⟨?_, by simp, (below_next h0 h0.size hB).alloc (by have := h0.size; have := hB.size; omega) _⟩
  intro k hk
  have hz := World.size_alloc W (.cells #[.int .u32 a.ver, .slice Ai a.ins.length ai, .slice Ao a.outs.length ao, .int .u32 a.lock, .int .u32 b.ver, .slice Bi b.ins.length bi, .slice Bo b.outs.length bo, .int .u32 b.lock] 53)
  match k, hk with
  | 0, _ => exact ⟨a, Ai, Ao, ai, ao, by simp, by simp, by simp, by simp, ((h1.1.keep ka).keep (Kept.alloc la _)).wide (Nat.le_refl _) (by omega), h1.2⟩
  | 1, _ => exact ⟨b, Bi, Bo, bi, bo, by simp, by simp, by simp, by simp, ((h2.1.keep kb).keep (Kept.alloc lb _)).wide (Nat.le_refl _) (by omega), h2.2⟩

end Go.Proofs.Ytdldhfhhhjenkaa
