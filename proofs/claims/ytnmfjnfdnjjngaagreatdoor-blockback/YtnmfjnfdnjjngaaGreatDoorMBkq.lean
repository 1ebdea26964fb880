/-
  BlockBack: the document's block with the place its list comes from, blocks that were applied in lists that grow, and a round of such blocks.
-/
import Derived.Test.YtnmfjnfdnjjngaaGreatDoorMBst
import Derived.Test.YtnmfjnfdnjjngaaGreatDoorMCpy
namespace Go.Proofs.YtnmfjnfdnjjngaaGreatDoor
open Go.RowKit
set_option maxRecDepth 100000

/-- What the document's Apply answers. -/
def RpvEnd (v0 : Value) (lo : Nat) (B : BlkA) (w : World) (e : Ending) (w' : World) : Prop :=
  ∃ v, e = .returned (.tuple #[v, .int .i64 B.code, .int .i64 B.at_, .int .i64 B.inn]) ∧ Co.Ents w' lo w'.heap.size v B.l ∧ Below w.heap.size w w' ∧ Co.Prov v0 w.heap.size v
theorem RpvEnd.mk {v0 : Value} {lo : Nat} {B : BlkA} {w w' : World} {v : Value} {c a n : Int} {m : List Co.EnD} (hB : B = ⟨m, c, a, n⟩) (he : Co.Ents w' lo w'.heap.size v m) (hb : Below w.heap.size w w') (hp : Co.Prov v0 w.heap.size v) :
    RpvEnd v0 lo B w (.returned (.tuple #[v, .int .i64 c, .int .i64 a, .int .i64 n])) w' := by
  subst hB
  exact ⟨v, rfl, he, hb, hp⟩

set_option maxHeartbeats 4000000 in
theorem rpv_any (Al : Option Addr) (cl : Nat) (l : List Co.EnD) (ts : List TxD) (h : Int) (At : Option Addr) (ct : Nat) (w : World) (lo hi lo2 hi2 : Nat) (hx : Co.Ents w lo hi (.slice Al l.length cl) l) (hhi : hi ≤ w.heap.size) (hlo : lo ≤ w.heap.size) (hg : Co.Good l) (ha : Co.Arg l)
    (ht : Txs w lo2 hi2 (.slice At ts.length ct) ts) (hhi2 : hi2 ≤ w.heap.size) (hok : ∀ t ∈ ts, t.Ok) (hlt : ts.length ≤ 100) (hlen : l.length + outsN ts ≤ 900) :
    Calls Tryz.prog 12 #[.slice Al l.length cl, .slice At ts.length ct, .int .i64 h] w (RpvEnd (.slice Al l.length cl) lo (blkA l ts h) w) := by
  have EN := Lib.hid (fun V (hV : Below w.heap.size w V) => (hx.keep (Kept.of_below hV hhi)).wide (Nat.le_refl _) (show hi ≤ V.heap.size by have := hV.size; omega))
  have TX := Lib.hid (fun V (hV : Below w.heap.size w V) => (ht.keep (Kept.of_below hV hhi2)).wide (Nat.zero_le _) (show hi2 ≤ w.heap.size from hhi2))
  have HI := Lib.hid (And.intro hhi hlo)
  have GD := Lib.hid hg
  have AG := Lib.hid ha
  have OK := Lib.hid hok
  have LL := Lib.hid hlen
  obtain ⟨n, hne⟩ : ∃ n, ts.length = n := ⟨_, rfl⟩
  have HNE := Lib.hid hne
  rw [hne] at TX hlt ⊢
  obtain ⟨nl, hnl⟩ : ∃ n, l.length = n := ⟨_, rfl⟩
  have HNL := Lib.hid hnl
  rw [hnl] at EN ⊢
  have BR := Lib.hid (blk_range (l := l) (xs := ts) (h := h))
  have BO := Lib.hid (blk_ok (l := l) (xs := ts) (h := h))
  have BN := Lib.hid (blk_no (l := l) (xs := ts) (h := h))
  obtain ⟨B, hB⟩ : ∃ B, blkA l ts h = B := ⟨_, rfl⟩
  rw [hB] at BR BO BN ⊢
  clear hx hhi hlo hg ha ht hhi2 hok hlen hne hnl hB
  by_cases h1 : h < 0
  · have E := Lib.hid (BR.out (by rw [decide_eq_false (by omega : ¬ 0 ≤ h)]; rfl))
    go_enter Tryz.func12, Tryz.ntmps12
    go_wp2_with fail
    refine bodyPost_ret (v := .tuple #[.slice Al nl cl, .int .i64 3, .int .i64 (-1), .int .i64 (-1)]) (by simp [results, Tryz.results12, go_sem]) rfl ?_
    exact RpvEnd.mk E.out (EN.out w (Below.refl _ _)) (Below.refl _ _) (.inl rfl)
  · by_cases h2 : h > 1000000
    · have h2' : 1000000 < h := h2
      have E := Lib.hid (BR.out (by rw [decide_eq_false (by omega : ¬ h ≤ 1000000)]; simp))
      go_enter Tryz.func12, Tryz.ntmps12
      go_wp2_with fail
      refine bodyPost_ret (v := .tuple #[.slice Al nl cl, .int .i64 3, .int .i64 (-1), .int .i64 (-1)]) (by simp [results, Tryz.results12, go_sem]) rfl ?_
      exact RpvEnd.mk E.out (EN.out w (Below.refl _ _)) (Below.refl _ _) (.inl rfl)
    · have q1 : 0 ≤ h := by omega
      have q2 : h ≤ 1000000 := by omega
      have h2' : ¬ 1000000 < h := h2
      have QQ := Lib.hid (And.intro q1 q2)
      obtain ⟨P, hP⟩ : ∃ P, blkF h ts 0 l = P := ⟨_, rfl⟩
      have BO1 := Lib.hid (BO.out q1 q2)
      have BN1 := Lib.hid (BN.out q1 q2)
      rw [hP] at BO1 BN1
      have HP := Lib.hid hP
      clear BO BN BR hP q1 q2
      go_enter Tryz.func12, Tryz.ntmps12
      go_wp2_with fail
      go_loopg [10, 11] n (fun gg s10 s11 wr => ∃ (k : Nat) (m : List Co.EnD) (v : Value), k ≤ n ∧ n - k ≤ gg ∧ s10 = v ∧ s11 = .int .i64 (k : Int) ∧ Hid (Co.Ents wr lo wr.heap.size v m) ∧ Hid (Below w.heap.size w wr) ∧ Hid (Co.Prov (.slice Al nl cl) w.heap.size v) ∧ Hid (blkF h (ts.drop k) k m = P ∧ Co.Good m ∧ Co.Arg m ∧ m.length + outsN (ts.drop k) ≤ 900))
      case atStart => exact ⟨0, l, _, Nat.zero_le _, by omega, rfl, rfl, Lib.hid (EN.out w (Below.refl _ _)), Lib.hid (Below.refl _ _), Lib.hid (.inl rfl), Lib.hid ⟨by rw [List.drop_zero]; exact HP.out, GD.out, AG.out, by rw [List.drop_zero]; exact LL.out⟩⟩
      case round =>
        obtain ⟨k, m, v, hk, hgk, rfl, rfl, HM, HB, HPV, HPK⟩ := hrel
        obtain ⟨Am, cm, rfl⟩ := HM.out.form
        have zwr := HB.out.size
        by_cases hlk : k < n
        · have j1 : (k : Int) < (n : Int) := by omega
          have j2 : decide (k < n) = true := decide_eq_true hlk
          have j3 : ¬ (k : Int) < 0 := by omega
          obtain ⟨t, hx⟩ : ∃ x, ts[k]? = some x := ⟨_, List.getElem?_eq_getElem (by rw [HNE.out]; exact hlk)⟩
          obtain ⟨bi, oi, rfl, g1, g2, c0, ⟨vi, vo, c1, c2, htx⟩, c3⟩ := (TX.out wr HB.out).at hx
          have hot := OK.out t (List.mem_of_getElem? hx)
          have HDR := Lib.hid (show outsN (ts.drop k) = t.outs.length + outsN (ts.drop (k + 1)) from by
            obtain ⟨hkk, he⟩ := List.getElem?_eq_some_iff.1 hx
            rw [List.drop_eq_getElem_cons hkk, he]
            simp [outsN])
          have CO := Lib.hid (rone_any Am cm m t k h vi vo wr lo wr.heap.size HM.out (Nat.le_refl _) (by have := HI.out.2; omega) HPK.out.2.1 (by have := HPK.out.2.2.2; rw [HDR.out] at this; omega) (htx.wide (Nat.le_refl _) zwr) hot QQ.out.1 QQ.out.2 (by omega))
          have BG := Lib.hid (blk_go (h := h) (l := m) hx)
          have BS := Lib.hid (blk_stop (h := h) (l := m) hx)
          have OKP := Lib.hid (one_keeps (first := k == 0) hot QQ.out.1 QQ.out.2 HPK.out.2.1 HPK.out.2.2.1)
          obtain ⟨O, hO⟩ : ∃ O, oneA m t (k == 0) h = O := ⟨_, rfl⟩
          rw [hO] at CO BG BS OKP
          obtain ⟨A1, m1, rfl⟩ := htx.1.form
          obtain ⟨A2, m2, rfl⟩ := htx.2.form
          obtain ⟨i1, hi1⟩ : ∃ i, t.ins.length = i := ⟨_, rfl⟩
          obtain ⟨o1, ho1⟩ : ∃ i, t.outs.length = i := ⟨_, rfl⟩
          rw [hi1, ho1] at CO
          rw [hi1] at c1
          rw [ho1] at c2
          have HOT := Lib.hid ho1
          obtain ⟨ml, hml⟩ : ∃ n, m.length = n := ⟨_, rfl⟩
          rw [hml] at CO HPV ⊢
          clear hx htx hot hO hi1 ho1 hml
          go_wp2_with fail
          refine CO.out.mono ?_
          rintro e w3 ⟨v3, rfl, he3, hb3, hp3⟩
          have P3 := Lib.hid (HPV.out.next hp3 zwr)
          have B3 := Lib.hid (below_next HB.out HB.out.size hb3)
          have HE := Lib.hid he3
          clear c0 c1 c2 c3 he3 hb3 hp3 CO
          obtain ⟨oc, hoc⟩ : ∃ c, O.code = c := ⟨_, rfl⟩
          obtain ⟨oi, hoi⟩ : ∃ c, O.inn = c := ⟨_, rfl⟩
          rw [hoc, hoi]
          rw [hoc] at HE BG BS
          rw [hoi] at BS
          by_cases hz : oc = 0
          · have G := Lib.hid (BG.out hz)
            subst hz
            have M3 := Lib.hid (show Co.Ents w3 lo w3.heap.size v3 O.l from by have := HE.out; rwa [if_pos rfl] at this)
            clear hoc hoi HE
            obtain ⟨A3, c3, rfl⟩ := M3.out.form
            go_wp2_with fail
            go_roundg (n - (k + 1))
            case measure => omega
            case rel => exact ⟨k + 1, O.l, _, by omega, by omega, rfl, by go_num, M3, B3, P3, Lib.hid ⟨G.out.symm.trans HPK.out.1, OKP.out.1, OKP.out.2.1, by have h1 := OKP.out.2.2; have h2 := HPK.out.2.2.2; rw [HDR.out] at h2; omega⟩⟩
          · have e1 : (oc != 0) = true := by simp [hz]
            have G := Lib.hid ((BS.out hz).symm.trans HPK.out.1)
            have E := Lib.hid (show B = ⟨l, oc, (k : Int), oi⟩ from by rw [BN1.out (by rw [← G.out]; exact hz), ← G.out])
            clear hz hoc hoi HE
            go_wp2_with fail
            refine bodyPost_ret (v := .tuple #[.slice Al nl cl, .int .i64 oc, .int .i64 (k : Int), .int .i64 oi]) (by simp [results, Tryz.results12, go_sem]) rfl ?_
            exact RpvEnd.mk E.out (EN.out w3 B3.out) B3.out (.inl rfl)
        · have k2' : decide (k < n) = false := decide_eq_false hlk
          have k3' : decide ((k : Int) < (n : Int)) = false := decide_eq_false (by omega)
          have k4' : ¬ (k : Int) < (n : Int) := by omega
          obtain rfl : k = n := by omega
          have G := Lib.hid ((blk_end (h := h) (xs := ts) (k := k) (l := m) (by rw [HNE.out]; exact Nat.le_refl _)).symm.trans HPK.out.1)
          have E := Lib.hid (show B = ⟨m, 0, -1, -1⟩ from by rw [BO1.out (by rw [← G.out]), ← G.out])
          have M3 := Lib.hid HM.out
          obtain ⟨ml, hml⟩ : ∃ n, m.length = n := ⟨_, rfl⟩
          have P4 := Lib.hid HPV.out
          rw [hml] at M3 P4 ⊢
          clear hml HM HPV
          go_wp2_with fail
          refine bodyPost_ret (v := .tuple #[.slice Am ml cm, .int .i64 0, .int .i64 (-1), .int .i64 (-1)]) (by simp [results, Tryz.results12, go_sem]) rfl ?_
          exact RpvEnd.mk E.out M3.out HB.out P4.out

theorem BSt.rpv {w wr V : World} {a b lo N : Nat} {m : List Co.EnD} {Am : Option Addr} {cm : Nat} (hB : BSt w a b lo m (.slice Am m.length cm) N wr) (he : Co.Ents V lo V.heap.size (.slice Am m.length cm) m) (h4 : lo ≤ V.heap.size) (hN : N ≤ 800) {At : Option Addr} {ct p : Nat} {ts : List TxD} (hT : TsOk p V (.slice At ts.length ct) ts) (h : Int) :
    Calls Tryz.prog 12 #[.slice Am m.length cm, .slice At ts.length ct, .int .i64 h] V fun e w' => ∃ A c, e = .returned (.tuple #[.slice A (blkA m ts h).l.length c, .int .i64 (blkA m ts h).code, .int .i64 (blkA m ts h).at_, .int .i64 (blkA m ts h).inn]) ∧
      Hid (Co.Ents w' lo w'.heap.size (.slice A (blkA m ts h).l.length c) (blkA m ts h).l) ∧ Hid (Below V.heap.size V w') ∧ Hid (Co.Prov (.slice Am m.length cm) V.heap.size (.slice A (blkA m ts h).l.length c)) := by
  refine (rpv_any Am cm m ts h At ct V lo V.heap.size p V.heap.size he (Nat.le_refl _) h4 hB.set.good hB.arg hT.1 (Nat.le_refl _) hT.2.1 (by have := hT.2.2.1; omega) (by have := hT.2.2.2; have := hB.len; omega)).mono ?_
  rintro e w' ⟨v, rfl, e1, e2, e3⟩
  obtain ⟨A, c, rfl⟩ := e1.form
  exact ⟨A, c, rfl, Lib.hid e1, Lib.hid e2, Lib.hid e3⟩

/-- A block that was applied: the coins ahead of it and behind it, its lists, the copy's blocks; they all lie from lo on, ahead of hi. -/
structure DB where
  la : List Co.EnD
  lb : List Co.EnD
  As : Option Addr
  cs : Nat
  Am : Option Addr
  cm : Nat
  a : Nat
  b : Nat
  lo : Nat
  hi : Nat
def DB.vs (d : DB) : Value := .slice d.As (Co.lessL d.la d.lb).length d.cs
def DB.vm (d : DB) : Value := .slice d.Am (Co.lessL d.lb d.la).length d.cm
/-- How it lies. -/
structure DbIs (w : World) (base : Nat) (d : DB) : Prop where
  l1 : base ≤ d.lo
  l2 : d.hi ≤ w.heap.size
  ab : d.lo ≤ d.a ∧ d.a < d.hi ∧ d.lo ≤ d.b ∧ d.b < d.hi
  set : Co.SetIs w d.a d.b d.la
  es : Co.Ents w d.lo d.hi d.vs (Co.lessL d.la d.lb)
  em : Co.Ents w d.lo d.hi d.vm (Co.lessL d.lb d.la)
  gb : Co.Good d.lb
  aa : Co.Arg d.la
  ln : d.la.length ≤ 120 ∧ d.lb.length ≤ 120
theorem DbIs.keep {w V : World} {base : Nat} {d : DB} (h : DbIs w base d) (hk : Kept d.lo d.hi w V) (hs : w.heap.size ≤ V.heap.size) : DbIs V base d := by
  have := h.ab
  exact ⟨h.l1, Nat.le_trans h.l2 hs, h.ab, h.set.keep (hk _ (by omega) (by omega)) (hk _ (by omega) (by omega)), h.es.keep hk, h.em.keep hk, h.gb, h.aa, h.ln⟩
/-- The coins behind the blocks. -/
def curL (ds : List DB) : List Co.EnD := match ds.getLast? with
  | none => []
  | some d => d.lb
theorem cur_snoc (ds : List DB) (d : DB) : curL (ds ++ [d]) = d.lb := by simp [curL]
theorem cur_take {ds : List DB} {j : Nat} {d : DB} (h : ds[j]? = some d) : curL (ds.take (j + 1)) = d.lb := by
  have e : ds.take (j + 1) = ds.take j ++ [d] := by rw [List.take_add_one, h]; rfl
  rw [e, cur_snoc]
structure Pil (w : World) (base : Nat) (vU vW : Value) (ds : List DB) (cu cw : List Value) : Prop where
  ownU : w.ownsRow base 31 2 vU ds.length cu
  ownW : w.ownsRow base 23 1 vW ds.length cw
  all : ∀ (j : Nat) (d : DB), ds[j]? = some d → cu[j * 2]? = some d.vs ∧ cu[j * 2 + 1]? = some d.vm ∧ cw[j]? = some (.pointer (some ⟨d.a, 0, none⟩)) ∧ DbIs w base d ∧ (∀ g, vU.ownBlock = some g → g < d.lo ∨ d.hi ≤ g) ∧ (∀ g, vW.ownBlock = some g → g < d.lo ∨ d.hi ≤ g) ∧ d.la = curL (ds.take j)
theorem Pil.nil (w : World) (base : Nat) : Pil w base (.slice none 0 0) (.slice none 0 0) [] [] [] := ⟨World.ownsRow_nil w base 31 2, World.ownsRow_nil w base 23 1, fun j d h => by simp at h⟩
theorem Pil.keep {w V : World} {base : Nat} {vU vW : Value} {ds : List DB} {cu cw : List Value} (h : Pil w base vU vW ds cu cw) (s : List Nat) (ht : Tn s w V) (hs : ∀ i ∈ s, i < base) : Pil V base vU vW ds cu cw := by
  have hk : ∀ lo hi, base ≤ lo → hi ≤ w.heap.size → Kept lo hi w V := fun lo hi h1 h2 => ht.kept (fun i hi => .inl (by have := hs i hi; omega)) h2
  have hst : ∀ e, StayE base w.heap.size e w V := fun e b cur h1 h2 _ => ht.block b h2 (fun hm => by have := hs b hm; omega)
  refine ⟨(OwnAt.keep (OwnAt.of_own h.ownU) (hst 31) ht.size).1, (OwnAt.keep (OwnAt.of_own h.ownW) (hst 23) ht.size).1, fun j d hd => ?_⟩
  obtain ⟨a1, a2, a3, a4, a5⟩ := h.all j d hd
  exact ⟨a1, a2, a3, a4.keep (hk _ _ a4.l1 a4.l2) ht.size, a5⟩
theorem Pil.stayW {w w1 : World} {base : Nat} {vU vW : Value} {ds : List DB} {cu cw : List Value} {o : Obj} (h : Pil w base vU vW ds cu cw) (hg : (w.alloc o).grownBy w1 vU.ownBlock) : w1.ownsRow base 23 1 vW ds.length cw :=
  (OwnAt.keep (OwnAt.of_own (h.ownW.alloc o)) (StayE.grown (h.ownU.alloc o) hg (Nat.le_refl _) (by decide)) hg.size).1
theorem Pil.push {w w1 w2 : World} {base : Nat} {vU vW vU' vW' : Value} {ds : List DB} {cu cw : List Value} {o1 o2 : Obj} {d : DB} (h : Pil w base vU vW ds cu cw) (hb : base ≤ w.heap.size) (hd : DbIs w base d) (hla : d.la = curL ds)
    (hu : ∀ g, vU.ownBlock = some g → g < d.lo ∨ d.hi ≤ g) (hw : ∀ g, vW.ownBlock = some g → g < d.lo ∨ d.hi ≤ g)
    (hg1 : (w.alloc o1).grownBy w1 vU.ownBlock) (ho1 : w1.ownsRow base 31 2 vU' (ds.length + 1) (cu ++ [d.vs, d.vm])) (ha1 : ∀ g, vU'.ownBlock = some g → vU.ownBlock = some g ∨ w.heap.size ≤ g)
    (hg2 : (w1.alloc o2).grownBy w2 vW.ownBlock) (ho2 : w2.ownsRow base 23 1 vW' (ds.length + 1) (cw ++ [.pointer (some ⟨d.a, 0, none⟩)])) (ha2 : ∀ g, vW'.ownBlock = some g → vW.ownBlock = some g ∨ w1.heap.size ≤ g) :
    Pil w2 base vU' vW' (ds ++ [d]) (cu ++ [d.vs, d.vm]) (cw ++ [.pointer (some ⟨d.a, 0, none⟩)]) ∧ Below base w w2 := by
  have z1 : w.heap.size + 1 ≤ w1.heap.size := by have := hg1.size; simp at this; exact this
  have z2 : w1.heap.size + 1 ≤ w2.heap.size := by have := hg2.size; simp at this; exact this
  have lu : cu.length = ds.length * 2 := h.ownU.1
  have lw : cw.length = ds.length * 1 := h.ownW.1
  have hW1 := h.stayW hg1
  have oU2 : w2.ownsRow base 31 2 vU' (ds.length + 1) (cu ++ [d.vs, d.vm]) :=
    (OwnAt.keep (OwnAt.of_own (ho1.alloc o2)) (StayE.grown (hW1.alloc o2) hg2 (Nat.le_refl _) (by decide)) hg2.size).1
  have K : ∀ lo hi, hi ≤ w.heap.size → (∀ g, vU.ownBlock = some g → g < lo ∨ hi ≤ g) → (∀ g, vW.ownBlock = some g → g < lo ∨ hi ≤ g) → Kept lo hi w w2 := fun lo hi h2 h4 h5 b hb1 hb2 => by
    have e1 := hg1.block b (by simp; omega) (fun e => by have := h4 b e.symm; omega)
    have e2 := hg2.block b (by simp; omega) (fun e => by have := h5 b e.symm; omega)
    exact e2.trans ((Below.heap_alloc _ _ _ (by omega)).trans (e1.trans (Below.heap_alloc _ _ _ (by omega))))
  have A1 : ∀ lo hi, hi ≤ w.heap.size → (∀ g, vU.ownBlock = some g → g < lo ∨ hi ≤ g) → ∀ g, vU'.ownBlock = some g → g < lo ∨ hi ≤ g := fun lo hi h2 h4 g hg => by
    rcases ha1 g hg with e | e
    · exact h4 g e
    · exact .inr (by omega)
  have A2 : ∀ lo hi, hi ≤ w.heap.size → (∀ g, vW.ownBlock = some g → g < lo ∨ hi ≤ g) → ∀ g, vW'.ownBlock = some g → g < lo ∨ hi ≤ g := fun lo hi h2 h4 g hg => by
    rcases ha2 g hg with e | e
    · exact h4 g e
    · exact .inr (by omega)
  refine ⟨⟨by rw [List.length_append]; exact oU2, by rw [List.length_append]; exact ho2, fun j y hy => ?_⟩, (grown_below hg1 (own_block h.ownU) hb).trans (grown_below hg2 (own_block hW1) (by omega))⟩
  by_cases hj : j < ds.length
  · have ht : (ds ++ [d]).take j = ds.take j := by rw [List.take_append_of_le_length (by omega)]
    rw [List.getElem?_append_left hj] at hy
    obtain ⟨a1, a2, a3, a4, a5, a6, a7⟩ := h.all j y hy
    refine ⟨?_, ?_, ?_, a4.keep (K _ _ a4.l2 a5 a6) (by omega), A1 _ _ a4.l2 a5, A2 _ _ a4.l2 a6, by rw [ht]; exact a7⟩
    · rw [List.getElem?_append_left (by omega)]; exact a1
    · rw [List.getElem?_append_left (by omega)]; exact a2
    · rw [List.getElem?_append_left (by omega)]; exact a3
  · have hj2 : j = ds.length := by
      have := (List.getElem?_eq_some_iff.1 hy).1
      simp at this; omega
    subst hj2
    simp at hy
    subst hy
    refine ⟨?_, ?_, ?_, hd.keep (K _ _ hd.l2 hu hw) (by omega), A1 _ _ hd.l2 hu, A2 _ _ hd.l2 hw, ?_⟩
    · rw [List.getElem?_append_right (by omega), lu]; simp
    · rw [List.getElem?_append_right (by omega), lu]; simp
    · rw [List.getElem?_append_right (by omega), lw]; simp
    · rw [List.take_append_of_le_length (Nat.le_refl _), List.take_length]; exact hla
/-- The cells of what is listed. -/
theorem Pil.at {w : World} {base : Nat} {AU AW : Option Addr} {nU nW kU kW : Nat} {ds : List DB} {cu cw : List Value} (h : Pil w base (.slice AU nU kU) (.slice AW nW kW) ds cu cw) {j : Nat} {d : DB} (hd : ds[j]? = some d) :
    ∃ gu gw, AU = some ⟨gu, 0, none⟩ ∧ AW = some ⟨gw, 0, none⟩ ∧ base ≤ gu ∧ gu < w.heap.size ∧ base ≤ gw ∧ gw < w.heap.size ∧ w.cell? ⟨gu, j * 2, none⟩ = some d.vs ∧ w.cell? ⟨gu, j * 2 + 1, none⟩ = some d.vm ∧ w.cell? ⟨gw, j, none⟩ = some (.pointer (some ⟨d.a, 0, none⟩)) := by
  obtain ⟨a1, a2, a3, _⟩ := h.all j d hd
  have hj := (List.getElem?_eq_some_iff.1 hd).1
  have F : ∀ {e sz n : Nat} {A : Option Addr} {k : Nat} {xs : List Value}, w.ownsRow base e sz (.slice A n k) ds.length xs → ∃ g, A = some ⟨g, 0, none⟩ ∧ (Value.slice A n k).ownBlock = some g := fun {e sz n A k xs} ho => by
    rcases ho.2 with ⟨_, h0⟩ | ⟨g, cap, cur, hv, _⟩
    · omega
    · injection hv with h1
      subst h1
      exact ⟨g, rfl, by simp [Value.ownBlock]⟩
  obtain ⟨gu, eu, ou⟩ := F h.ownU
  obtain ⟨gw, ew, ow⟩ := F h.ownW
  have u1 := h.ownU.lt gu ou
  have w1 := h.ownW.lt gw ow
  have c0 := h.ownU.cells ou _ _ a1
  have c1 := h.ownU.cells ou _ _ a2
  have c2 := h.ownW.cells ow _ _ a3
  simp only [Addr.add_lit, Nat.zero_add] at c0 c1 c2
  exact ⟨gu, gw, eu, ew, u1.1, u1.2, w1.1, w1.2, c0, c1, c2⟩
theorem info31 : (Tryz.prog.info? 31).map (fun i => (i.zero, i.size, i.bytes)) = some (some (.agg #[.slice none 0 0, .slice none 0 0]), 2, 48) := by kernel_rfl
theorem info23 : (Tryz.prog.info? 23).map (fun i => (i.zero, i.size, i.bytes)) = some (some (.pointer none), 1, 8) := by kernel_rfl

theorem one_new1 (w : World) (a : Value) (t : TypeId) : ∀ j u, [a][j]? = some u → (w.alloc (.cells #[a] t)).cell? ((⟨w.heap.size, 0, none⟩ : Addr).add j) = some u := by
  intro j u hj
  rw [Addr.add_lit]
  match j, hj with
  | 0, hj => simp at hj; subst hj; simp
theorem tn_two {w w1 w2 : World} {base : Nat} {o1 o2 : Obj} {vU vW : Value} (hg1 : (w.alloc o1).grownBy w1 vU.ownBlock) (hg2 : (w1.alloc o2).grownBy w2 vW.ownBlock) (hb : Below base w w2) : Tn (vU.ownBlock.toList ++ vW.ownBlock.toList) w w2 :=
  ⟨hb.os, hb.tape, hb.output, hb.size, fun k hk hm => by
    have z1 : w.heap.size + 1 ≤ w1.heap.size := by have := hg1.size; simp at this; exact this
    have e1 := hg1.block k (by simp; omega) (fun e => hm (by simp [← e]))
    have e2 := hg2.block k (by simp; omega) (fun e => hm (by simp [← e]))
    exact e2.trans ((Below.heap_alloc _ _ _ (by omega)).trans (e1.trans (Below.heap_alloc _ _ _ hk)))⟩
/-- The list lies in neither of the lists' blocks. -/
def OCond (m : List Co.EnD) (A : Option Addr) (vU vW : Value) : Prop := m = [] ∨ ∀ ad, A = some ad → (∀ g, vU.ownBlock = some g → g ≠ ad.block) ∧ (∀ g, vW.ownBlock = some g → g ≠ ad.block)
theorem own_is {g1 n c g : Nat} (h : (Value.slice (some ⟨g1, 0, none⟩) n c).ownBlock = some g) : g1 = g := by simpa [Value.ownBlock] using h

theorem back_round (w w2 w3 w4 w5 x1 x2 : World) (a lo k p : Nat) (m : List Co.EnD) (Am : Option Addr) (cm : Nat) (vU vW vt : Value) (ds : List DB) (cu cw : List Value) (ts : List TxD) (B : BlkA) (As' Am' : Option Addr) (cs' cm' g1 k1 g2 k2 : Nat) (o1 o2 : Obj)
    (hS : BSt w a w.heap.size lo m (.slice Am m.length cm) (20 * k) w2) (hk : k < 6) (hP : Pil w2 lo vU vW ds cu cw) (hM : m = curL ds) (hO : OCond m Am vU vW)
    (hU : ∀ g, vU.ownBlock = some g → g < p) (hW : ∀ g, vW.ownBlock = some g → g < p) (hT : TsOk p w2 vt ts) (hp : lo ≤ p)
    (s3 : Co.SetIs w3 (w2.heap.size + 1) w2.heap.size m) (b3 : Below w2.heap.size w2 w3)
    (he : Co.Ents w4 w3.heap.size w4.heap.size (.slice As' (Co.lessL m B.l).length cs') (Co.lessL m B.l) ∧ Co.Ents w4 w3.heap.size w4.heap.size (.slice Am' (Co.lessL B.l m).length cm') (Co.lessL B.l m))
    (hSt : Co.SetIs w4 a w.heap.size B.l) (hTn : Tn [a, w.heap.size] w3 w4) (b5 : Below w4.heap.size w4 w5) (kp : Co.Good B.l ∧ Co.Arg B.l ∧ B.l.length ≤ 20 * k + 20)
    (hg1 : (w5.alloc o1).grownBy x1 vU.ownBlock) (ho1 : x1.ownsRow lo 31 2 (.slice (some ⟨g1, 0, none⟩) (ds.length + 1) k1) (ds.length + 1) (cu ++ [.slice As' (Co.lessL m B.l).length cs', .slice Am' (Co.lessL B.l m).length cm'])) (ha1 : vU.ownBlock = some g1 ∨ g1 = (w5.alloc o1).heap.size)
    (hg2 : (x1.alloc o2).grownBy x2 vW.ownBlock) (ho2 : x2.ownsRow lo 23 1 (.slice (some ⟨g2, 0, none⟩) (ds.length + 1) k2) (ds.length + 1) (cw ++ [.pointer (some ⟨w2.heap.size + 1, 0, none⟩)])) (ha2 : vW.ownBlock = some g2 ∨ g2 = (x1.alloc o2).heap.size) :
    ∃ d cu' cw', d.lb = B.l ∧ Pil x2 lo (.slice (some ⟨g1, 0, none⟩) (ds.length + 1) k1) (.slice (some ⟨g2, 0, none⟩) (ds.length + 1) k2) (ds ++ [d]) cu' cw' ∧ Co.Ents x2 lo x2.heap.size (.slice Am m.length cm) m ∧ TsOk p x2 vt ts ∧ lo ≤ x2.heap.size ∧
      (∀ w6 A6 c6, Co.Ents w6 lo w6.heap.size (.slice A6 B.l.length c6) B.l → Below x2.heap.size x2 w6 → Co.Prov (.slice Am m.length cm) x2.heap.size (.slice A6 B.l.length c6) →
        BSt w a w.heap.size lo B.l (.slice A6 B.l.length c6) (20 * (k + 1)) w6 ∧ OCond B.l A6 (.slice (some ⟨g1, 0, none⟩) (ds.length + 1) k1) (.slice (some ⟨g2, 0, none⟩) (ds.length + 1) k2)) := by
  have al := hS.al
  have z3 := b3.size
  have z4 := hTn.size
  have z5 := b5.size
  have la3 := s3.lta
  have lb3 := s3.ltb
  have hle := hS.le
  have S3 := hS.below b3
  have T5 : Tn [a, w.heap.size] w3 w5 := hTn.next b5
  have off : ∀ i ∈ [a, w.heap.size], i < lo := by
    intro i hi
    simp at hi
    rcases hi with rfl | rfl <;> omega
  have nin : ∀ i, lo ≤ i → i ∉ [a, w.heap.size] := fun i hi hm => by have := off i hm; omega
  have P5 := (hP.keep [] (Tn.of_below b3) (by simp)).keep _ T5 off
  have hd : DbIs w5 lo ⟨m, B.l, As', cs', Am', cm', w2.heap.size + 1, w2.heap.size, w2.heap.size, w4.heap.size⟩ :=
    ⟨hle, z5, ⟨by dsimp only; omega, by dsimp only; omega, Nat.le_refl _, by dsimp only; omega⟩, s3.keep (T5.block _ la3 (nin _ (by omega))) (T5.block _ lb3 (nin _ hle)),
      (he.1.keep (Kept.of_below b5 (Nat.le_refl _))).wide z3 (Nat.le_refl _), (he.2.keep (Kept.of_below b5 (Nat.le_refl _))).wide z3 (Nat.le_refl _), kp.1, hS.arg, ⟨by have := hS.len; show m.length ≤ 120; omega, by have := kp.2.2; show B.l.length ≤ 120; omega⟩⟩
  obtain ⟨P2, bl⟩ := P5.push (by omega) hd hM (fun g h => .inl (hP.ownU.lt g h).2) (fun g h => .inl (hP.ownW.lt g h).2) hg1 ho1
    (fun g h => by have := own_is h; subst this; exact ha1.imp id (fun e => by rw [e]; simp)) hg2 ho2 (fun g h => by have := own_is h; subst this; exact ha2.imp id (fun e => by rw [e]; simp))
  have TT := tn_two hg1 hg2 bl
  obtain ⟨e5, bel5, dr5, l5⟩ := S3.turn T5
  have zx := bl.size
  have mo : ∀ i, i ∈ vU.ownBlock.toList ++ vW.ownBlock.toList → vU.ownBlock = some i ∨ vW.ownBlock = some i := fun i hi => by simpa using hi
  have mlt : ∀ i ∈ vU.ownBlock.toList ++ vW.ownBlock.toList, lo ≤ i ∧ i < p := fun i hi => by
    rcases mo i hi with e | e
    · exact ⟨(hP.ownU.lt i e).1, hU i e⟩
    · exact ⟨(hP.ownW.lt i e).1, hW i e⟩
  refine ⟨_, _, _, rfl, P2, ?_, ?_, by omega, ?_⟩
  · refine (ents_stay e5 (hO.imp id fun f ad n c e h1 h2 => TT.block _ h2 fun hm => ?_)).wide (Nat.le_refl _) zx
    injection e with e1
    rcases mo _ hm with e | e
    · exact (f ad e1).1 _ e rfl
    · exact (f ad e1).2 _ e rfl
  · exact ((hT.below b3).turn T5 (fun i hi => by have := off i hi; omega)).turn TT (fun i hi => (mlt i hi).2)
  · intro w6 A6 c6 he6 hb6 hpv
    have S5 := hSt.below b5 hSt.lta hSt.ltb
    refine ⟨⟨S5.keep ((hb6.block a (by omega)).trans (bl.block a (by omega))) ((hb6.block _ (by omega)).trans (bl.block _ (by omega))), he6, kp.2.1, by have := kp.2.2; omega, below_next (bel5.trans (bl.mono (by omega))) (by omega) hb6, by have := hb6.size; omega, al, (dr5.tn TT (fun i hi => by have := (mlt i hi).1; have := hS.w3; omega)).below hb6, hS.w3⟩, ?_⟩
    have gU := (P2.ownU.lt g1 (by simp [Value.ownBlock])).2
    have gW := (P2.ownW.lt g2 (by simp [Value.ownBlock])).2
    by_cases hn : B.l = []
    · exact .inl hn
    · refine .inr fun ad ea => ?_
      rcases hpv with h | h
      · injection h with h1 h2 h3
        have mn : m ≠ [] := fun e => hn (List.eq_nil_of_length_eq_zero (by rw [h2, e]; rfl))
        rcases hO with h0 | f
        · exact absurd h0 mn
        · have f' := f ad (h1 ▸ ea)
          have hlt : ad.block < w5.heap.size := by
            obtain ⟨A, c, hv, hc, hh⟩ := e5
            injection hv with hv1
            rcases hh with hh | ⟨b, o, hA, hb1, hb2, _⟩
            · exact absurd hh mn
            · rw [h1, hv1, hA] at ea
              injection ea with ea
              rw [← ea]
              exact hb2
          refine ⟨fun g hg => ?_, fun g hg => ?_⟩
          · have := own_is hg
            subst this
            rcases ha1 with e | e
            · exact f'.1 _ e
            · simp at e
              omega
          · have := own_is hg
            subst this
            rcases ha2 with e | e
            · exact f'.2 _ e
            · have := hg1.size
              simp at e this
              omega
      · have := h ad _ _ (by rw [ea])
        refine ⟨fun g hg => ?_, fun g hg => ?_⟩
        · have := own_is hg
          omega
        · have := own_is hg
          omega

end Go.Proofs.YtnmfjnfdnjjngaaGreatDoor
