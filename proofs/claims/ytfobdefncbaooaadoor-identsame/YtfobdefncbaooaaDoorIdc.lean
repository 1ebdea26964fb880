/-
  Layer 7's calls, and the document's answers for them.
  The point of an Out, and what the document fixes of layer 7.
  What the document fixes of layer 7: the first example.
  The document's ids, weight and size.
-/
import Derived.Test.YtfobdefncbaooaaDoorByt
import Derived.Test.YtfobdefncbaooaaDoorHrsum
import Derived.Test.YtfobdefncbaooaaDoorShut
import Derived.Test.YtfobdefncbaooaaDoorGz

namespace Go.Proofs.YtfobdefncbaooaaDoor
open Go.RowKit

theorem wire_le {t : TxD} (hok : t.Ok) (m : Bool) : 4 ≤ (wireS t m).size ∧ (wireS t m).size ≤ 1000000 := by
  have a1 := putS_le t.ver 4
  have a2 := putS_le t.lock 4
  have a3 := markS_le m
  have a4 := vstr_le t.ins.length
  have a5 := vstr_le t.outs.length
  have a6 := ins_le hok t.ins.length
  have a7 := outs_le hok t.outs.length
  have a8 := wits_le hok t.ins.length
  rw [List.take_length] at a6 a7 a8
  have a9 : (witsS m t.ins).size ≤ 565760 := by
    unfold witsS
    split
    · exact a8
    · simp
  have b1 : (Vi.putS t.ver 4).size = 4 := Vi.putS_sz4 _
  simp only [wireS, ByteArray.size_append]
  omega
theorem enc_le {t : TxD} (hok : t.Ok) (m : Bool) : (encS t m).size ≤ 1000000 := by
  unfold encS
  split
  · exact (wire_le hok m).2
  · exact Nat.zero_le _

/-- The digest's digest. -/
def dd (s : ByteArray) : ByteArray := Sh.digest (Sh.digest s)
/-- What 'digest' answers beside an error, and without. -/
def ddE (s : ByteArray) (e : Int) : ByteArray := if e = 0 then dd s else ⟨#[]⟩
def idS (t : TxD) : ByteArray := if checkD t = 0 then dd (wireS t false) else ⟨#[]⟩
def whS (t : TxD) : ByteArray := if checkD t = 0 then dd (wireS t (hasW t)) else ⟨#[]⟩
def wtN (t : TxD) : Int := if checkD t = 0 then 3 * ((wireS t false).size : Int) + ((wireS t (hasW t)).size : Int) else 0
def szN (t : TxD) : Int := if checkD t = 0 then (wtN t + 3) / 4 else 0
theorem dd_bare (t : TxD) : ddE (encS t false) (checkD t) = idS t := by
  unfold ddE idS encS
  by_cases h : checkD t = 0
  · rw [if_pos h, if_pos h, if_pos h]
  · rw [if_neg h, if_neg h]
theorem dd_whole (t : TxD) : ddE (encS t (hasW t)) (checkD t) = whS t := by
  unfold ddE whS encS
  by_cases h : checkD t = 0
  · rw [if_pos h, if_pos h, if_pos h]
  · rw [if_neg h, if_neg h]

set_option maxHeartbeats 1000000 in
theorem digest_any (s : ByteArray) (e : Int) (w : World) (hs : s.size ≤ 1000000) (hT : Sh.Tabs w) :
    Calls Tryd.prog 24 #[.string s, .int .i64 e] w fun x w' => x = .returned (.tuple #[.string (ddE s e), .int .i64 e]) ∧ Below w.heap.size w w' := by
  have C40 := Lib.hid (Sh.twice_any s w (by omega) hT)
  by_cases he : e = 0
  · subst he
    have E := Lib.hid (show ddE s 0 = dd s from if_pos rfl)
    go_enter Tryd.func24, Tryd.ntmps24
    go_wp2_with fail
    refine C40.out.mono ?_
    rintro x w1 ⟨rfl, hb1⟩
    go_wp2_with fail
    go_ret2
    exact ⟨ret_se E.out.symm rfl, hb1⟩
  · have e1 : (e != 0) = true := by simpa using he
    have E := Lib.hid (show ddE s e = ⟨#[]⟩ from if_neg he)
    clear he
    go_enter Tryd.func24, Tryd.ntmps24
    go_wp2_with fail
    go_ret2
    exact ⟨ret_se E.out.symm rfl, Below.refl _ _⟩

set_option maxHeartbeats 1000000 in
set_option maxRecDepth 100000 in
theorem ident_any (t : TxD) (vi vo : Value) (w : World) (ht : TxAt w 0 w.heap.size vi vo t) (hok : t.Ok) (hT : Sh.Tabs w) :
    Calls Tryd.prog 9 #[.agg #[.int .u32 t.ver, vi, vo, .int .u32 t.lock]] w fun x w' => x = .returned (.tuple #[.string (idS t), .int .i64 (checkD t)]) ∧ Below w.heap.size w w' := by
  have HT := Lib.hid ht
  have HO := Lib.hid hok
  have HA := Lib.hid hT
  clear ht hok hT
  have B0 := Lib.hid (fun o => (Below.refl w.heap.size w).alloc (Nat.le_refl _) o)
  go_enter Tryd.func9, Tryd.ntmps9
  go_wp2_with fail
  refine (bare_any t vi vo _ ((HT.out.keep (Kept.of_below (B0.out _) (Nat.le_refl _))).wide (Nat.le_refl _) (by simp)) HO.out).mono ?_
  rintro x w1 ⟨rfl, hb1⟩
  have K1 := Lib.hid (below_next (B0.out _) (by simp) hb1)
  clear hb1
  go_wp2_with fail
  refine (digest_any (encS t false) (checkD t) w1 (enc_le HO.out false) (HA.out.below K1.out)).mono ?_
  rintro x w2 ⟨rfl, hb2⟩
  go_wp2_with fail
  go_ret2
  exact ⟨ret_se (dd_bare t) rfl, below_next K1.out K1.out.size hb2⟩

set_option maxHeartbeats 1000000 in
set_option maxRecDepth 100000 in
theorem whole_any (t : TxD) (vi vo : Value) (w : World) (ht : TxAt w 0 w.heap.size vi vo t) (hok : t.Ok) (hT : Sh.Tabs w) :
    Calls Tryd.prog 10 #[.agg #[.int .u32 t.ver, vi, vo, .int .u32 t.lock]] w fun x w' => x = .returned (.tuple #[.string (whS t), .int .i64 (checkD t)]) ∧ Below w.heap.size w w' := by
  have HT := Lib.hid ht
  have HO := Lib.hid hok
  have HA := Lib.hid hT
  clear ht hok hT
  have B0 := Lib.hid (fun o => (Below.refl w.heap.size w).alloc (Nat.le_refl _) o)
  go_enter Tryd.func10, Tryd.ntmps10
  go_wp2_with fail
  refine (encode_any t vi vo _ ((HT.out.keep (Kept.of_below (B0.out _) (Nat.le_refl _))).wide (Nat.le_refl _) (by simp)) HO.out).mono ?_
  rintro x w1 ⟨rfl, hb1⟩
  have K1 := Lib.hid (below_next (B0.out _) (by simp) hb1)
  clear hb1
  go_wp2_with fail
  refine (digest_any (encS t (hasW t)) (checkD t) w1 (enc_le HO.out _) (HA.out.below K1.out)).mono ?_
  rintro x w2 ⟨rfl, hb2⟩
  go_wp2_with fail
  go_ret2
  exact ⟨ret_se (dd_whole t) rfl, below_next K1.out K1.out.size hb2⟩

theorem ret_ne {a b c d : Int} (h : a = b) (h2 : c = d) : Ending.returned (.tuple #[.int .i64 a, .int .i64 c]) = .returned (.tuple #[.int .i64 b, .int .i64 d]) := by rw [h, h2]

set_option maxHeartbeats 1000000 in
set_option maxRecDepth 100000 in
theorem weight_any (t : TxD) (vi vo : Value) (w : World) (ht : TxAt w 0 w.heap.size vi vo t) (hok : t.Ok) :
    Calls Tryd.prog 11 #[.agg #[.int .u32 t.ver, vi, vo, .int .u32 t.lock]] w fun x w' => x = .returned (.tuple #[.int .i64 (wtN t), .int .i64 (checkD t)]) ∧ Below w.heap.size w w' := by
  obtain ⟨A1, m1, rfl⟩ := ht.1.form
  obtain ⟨A2, m2, rfl⟩ := ht.2.form
  obtain ⟨w1, hw1⟩ : ∃ w1, w1 = w.alloc (.cells #[.int .u32 t.ver, .slice A1 t.ins.length m1, .slice A2 t.outs.length m2, .int .u32 t.lock] 26) := ⟨_, rfl⟩
  have hb1 : Below w.heap.size w w1 := by rw [hw1]; exact (Below.refl _ _).alloc (Nat.le_refl _) _
  have z1 : w1.heap.size = w.heap.size + 1 := by rw [hw1]; simp
  have BX := Lib.hid (show Boxed w1 w.heap.size (.int .u32 t.ver) (.slice A1 t.ins.length m1) (.slice A2 t.outs.length m2) (.int .u32 t.lock) from by rw [hw1]; exact Boxed.new _ _ _ _ _ _)
  have HT := Lib.hid ((ht.keep (Kept.of_below hb1 (Nat.le_refl _))).wide (Nat.le_refl _) (show w.heap.size ≤ w1.heap.size by omega))
  have HO := Lib.hid hok
  have K1 := Lib.hid hb1
  have HW1 := Lib.hid hw1
  clear ht hok hb1 hw1
  have s1 := enc_le HO.out false
  have s2 := enc_le HO.out (hasW t)
  go_enter Tryd.func11, Tryd.ntmps11
  go_upto_region 1 with (fail)
  rw [show World.alloc w _ = w1 from HW1.out.symm]
  obtain ⟨a0, a1, a2, a3⟩ := BX.out
  go_wp2_with fail
  refine (bare_any t _ _ w1 HT.out HO.out).mono ?_
  rintro x w2 ⟨rfl, hb2⟩
  have z2 := hb2.size
  have K2 := Lib.hid (below_next K1.out (by omega) hb2)
  have HT2 := Lib.hid ((HT.out.keep (Kept.of_below hb2 (Nat.le_refl _))).wide (Nat.le_refl _) hb2.size)
  have BX2 := Lib.hid (BX.out.below (by omega) hb2)
  clear hb2 a0 a1 a2 a3
  obtain ⟨cd, hcd⟩ : ∃ cd, checkD t = cd := ⟨_, rfl⟩
  rw [hcd]
  have EC := Lib.hid hcd
  by_cases hz : cd = 0
  · subst hz
    have e1 : encS t false = wireS t false := by unfold encS; rw [if_pos hcd]
    have e2 : encS t (hasW t) = wireS t (hasW t) := by unfold encS; rw [if_pos hcd]
    have EW := Lib.hid (show wtN t = 3 * ((encS t false).size : Int) + ((encS t (hasW t)).size : Int) from by unfold wtN; rw [if_pos hcd, e1, e2])
    have C21 := Lib.hid (encode_any t _ _ w2 HT2.out HO.out)
    rw [hcd] at C21
    clear hcd e1 e2
    obtain ⟨b, hb⟩ : ∃ b, encS t false = b := ⟨_, rfl⟩
    obtain ⟨f, hf⟩ : ∃ f, encS t (hasW t) = f := ⟨_, rfl⟩
    rw [hb, hf] at EW
    rw [hb] at s1
    rw [hf] at s2 C21
    rw [hb]
    clear hb hf
    have v1 : IntKind.i64.wrap (3 * (b.size : Int)) = 3 * (b.size : Int) := by rw [IntWalk.i64_in _ (by omega)]
    have v2 : IntKind.i64.wrap (3 * (b.size : Int) + (f.size : Int)) = 3 * (b.size : Int) + (f.size : Int) := by rw [IntWalk.i64_in _ (by omega)]
    obtain ⟨a0, a1, a2, a3⟩ := BX2.out
    go_wp2_with fail
    refine C21.out.mono ?_
    rintro x w3 ⟨rfl, hb3⟩
    go_wp2_with fail
    go_ret2
    exact ⟨ret_ne EW.out.symm EC.out.symm, below_next K2.out K2.out.size hb3⟩
  · have e1 : (cd != 0) = true := by simpa using hz
    have EW := Lib.hid (show wtN t = 0 from by unfold wtN; rw [hcd, if_neg hz])
    clear hz hcd
    go_wp2_with fail
    go_ret2
    exact ⟨ret_ne EW.out.symm EC.out.symm, K2.out⟩

theorem wtN_bd {t : TxD} (hok : t.Ok) : 0 ≤ wtN t ∧ wtN t ≤ 4000000 := by
  have h1 := (wire_le hok false).2
  have h2 := (wire_le hok (hasW t)).2
  unfold wtN
  split <;> omega

set_option maxHeartbeats 1000000 in
set_option maxRecDepth 100000 in
theorem size_any (t : TxD) (vi vo : Value) (w : World) (ht : TxAt w 0 w.heap.size vi vo t) (hok : t.Ok) :
    Calls Tryd.prog 12 #[.agg #[.int .u32 t.ver, vi, vo, .int .u32 t.lock]] w fun x w' => x = .returned (.tuple #[.int .i64 (szN t), .int .i64 (checkD t)]) ∧ Below w.heap.size w w' := by
  have HT := Lib.hid ht
  have HO := Lib.hid hok
  clear ht hok
  have B0 := Lib.hid (fun o => (Below.refl w.heap.size w).alloc (Nat.le_refl _) o)
  have hb := wtN_bd HO.out
  go_enter Tryd.func12, Tryd.ntmps12
  go_wp2_with fail
  refine (weight_any t vi vo _ ((HT.out.keep (Kept.of_below (B0.out _) (Nat.le_refl _))).wide (Nat.le_refl _) (by simp)) HO.out).mono ?_
  rintro x w1 ⟨rfl, hb1⟩
  have K1 := Lib.hid (below_next (B0.out _) (by simp) hb1)
  clear hb1
  obtain ⟨cd, hcd⟩ : ∃ cd, checkD t = cd := ⟨_, rfl⟩
  obtain ⟨n, hn⟩ : ∃ n, wtN t = n := ⟨_, rfl⟩
  rw [hcd, hn]
  rw [hn] at hb
  have EC := Lib.hid hcd
  by_cases hz : cd = 0
  · subst hz
    have EZ := Lib.hid (show szN t = (n + 3) / 4 from by unfold szN; rw [if_pos hcd, hn])
    clear hcd hn
    have v1 : IntKind.i64.wrap (n + 4) = n + 4 := by rw [IntWalk.i64_in _ (by omega)]
    have v2 : IntKind.i64.wrap (n + 4 - 1) = n + 3 := by rw [IntWalk.i64_in _ (by omega)]; omega
    have v3 : IntKind.i64.wrap (n + 3) = n + 3 := by rw [IntWalk.i64_in _ (by omega)]
    have v4 : (n + 3).tdiv 4 = (n + 3) / 4 := Int.tdiv_eq_ediv_of_nonneg (by omega)
    have v5 : IntKind.i64.wrap ((n + 3) / 4) = (n + 3) / 4 := by rw [IntWalk.i64_in _ (by omega)]
    go_wp2_with fail
    go_ret2
    exact ⟨ret_ne (by rw [EZ.out] <;> omega) EC.out.symm, K1.out⟩
  · have e1 : (cd != 0) = true := by simpa using hz
    have EZ := Lib.hid (show szN t = 0 from by unfold szN; rw [hcd, if_neg hz])
    clear hz hcd hn
    go_wp2_with fail
    go_ret2
    exact ⟨ret_ne EZ.out.symm EC.out.symm, K1.out⟩

end Go.Proofs.YtfobdefncbaooaaDoor

namespace Go.Proofs.YtfobdefncbaooaaDoor
open Go.RowKit

/-- The error of Pays, its point's id and place. -/
def pyE (t : TxD) (i : Int) : Int := if checkD t = 0 then (if i < 0 ∨ (t.outs.length : Int) ≤ i then 2 else 0) else checkD t
def pyS (t : TxD) (i : Int) : ByteArray := if pyE t i = 0 then dd (wireS t false) else ⟨#[]⟩
def pyI (t : TxD) (i : Int) : Int := if pyE t i = 0 then i else 0

theorem ret_pe {a b : ByteArray} {i j e f : Int} (h : a = b) (h2 : i = j) (h3 : e = f) : Ending.returned (.tuple #[.agg #[.string a, .int .u32 i], .int .i64 e]) = .returned (.tuple #[.agg #[.string b, .int .u32 j], .int .i64 f]) := by rw [h, h2, h3]

set_option maxHeartbeats 2000000 in
set_option maxRecDepth 100000 in
theorem pays_any (t : TxD) (i : Int) (vi vo : Value) (w : World) (ht : TxAt w 0 w.heap.size vi vo t) (hok : t.Ok) (hT : Sh.Tabs w) :
    Calls Tryd.prog 19 #[.agg #[.int .u32 t.ver, vi, vo, .int .u32 t.lock], .int .i64 i] w fun x w' => x = .returned (.tuple #[.agg #[.string (pyS t i), .int .u32 (pyI t i)], .int .i64 (pyE t i)]) ∧ Below w.heap.size w w' := by
  obtain ⟨A1, m1, rfl⟩ := ht.1.form
  obtain ⟨A2, m2, rfl⟩ := ht.2.form
  obtain ⟨w1, hw1⟩ : ∃ w1, w1 = (w.alloc (.cells #[.int .u32 t.ver, .slice A1 t.ins.length m1, .slice A2 t.outs.length m2, .int .u32 t.lock] 26)).alloc (.cells #[.string ⟨#[]⟩, .int .u32 0] 41) := ⟨_, rfl⟩
  have hb1 : Below w.heap.size w w1 := by rw [hw1]; exact ((Below.refl _ _).alloc (Nat.le_refl _) _).alloc (by simp) _
  have z1 : w1.heap.size = w.heap.size + 2 := by rw [hw1]; simp
  have BX := Lib.hid (show Boxed w1 w.heap.size (.int .u32 t.ver) (.slice A1 t.ins.length m1) (.slice A2 t.outs.length m2) (.int .u32 t.lock) from by rw [hw1]; exact (Boxed.new _ _ _ _ _ _).below (by simp) ((Below.refl _ _).alloc (Nat.le_refl _) _))
  have hpt : w1.heap[w.heap.size + 1]? = some (.cells #[.string ⟨#[]⟩, .int .u32 0] 41 (0, 0)) := by
    rw [hw1]
    show ((w.heap.push _).push _)[w.heap.size + 1]? = _
    rw [Array.getElem?_push, if_pos (by simp)]
  have HT := Lib.hid ((ht.keep (Kept.of_below hb1 (Nat.le_refl _))).wide (Nat.le_refl _) (show w.heap.size ≤ w1.heap.size by omega))
  have HO := Lib.hid hok
  have HA := Lib.hid (hT.below hb1)
  have K1 := Lib.hid hb1
  have HW1 := Lib.hid hw1
  have hol := hok.2.1
  clear ht hok hb1 hw1 hT
  go_enter Tryd.func19, Tryd.ntmps19
  go_upto_region 1 with (fail)
  rw [show World.alloc _ _ = w1 from HW1.out.symm]
  obtain ⟨a0, a1, a2, a3⟩ := BX.out
  go_wp2_with fail
  refine (ident_any t _ _ w1 HT.out HO.out HA.out).mono ?_
  rintro x w2 ⟨rfl, hb2⟩
  have z2 := hb2.size
  have K2 := Lib.hid (below_next K1.out (by omega) hb2)
  have hp2 := (hb2.block (w.heap.size + 1) (by omega)).trans hpt
  have BX2 := Lib.hid (BX.out.below (by omega) hb2)
  clear hb2 a0 a1 a2 a3 hpt
  have d0 : w2.cell? ⟨w.heap.size + 1, 0, none⟩ = some (.string ⟨#[]⟩) := by rw [Lib.cell_of_heap hp2]; rfl
  have d1 : w2.cell? ⟨w.heap.size + 1, 1, none⟩ = some (.int .u32 0) := by rw [Lib.cell_of_heap hp2]; rfl
  have f0 : w2.frozen? ⟨w.heap.size + 1, 0, none⟩ = false := Lib.frozen_of_heap hp2 0
  have f1 : w2.frozen? ⟨w.heap.size + 1, 1, none⟩ = false := Lib.frozen_of_heap hp2 1
  have PB := Lib.hid (fun x y => (K2.out.setCell (p := ⟨w.heap.size + 1, 0, none⟩) (Nat.le_succ _) x).setCell (p := ⟨w.heap.size + 1, 1, none⟩) (Nat.le_succ _) y)
  obtain ⟨n, hn⟩ : ∃ n, t.outs.length = n := ⟨_, rfl⟩
  have EY := Lib.hid (show (¬ checkD t = 0 → pyE t i = checkD t ∧ pyS t i = ⟨#[]⟩ ∧ pyI t i = 0) ∧ (checkD t = 0 → (i < 0 ∨ (n : Int) ≤ i) → pyE t i = 2 ∧ pyS t i = ⟨#[]⟩ ∧ pyI t i = 0) ∧ (checkD t = 0 → ¬ (i < 0 ∨ (n : Int) ≤ i) → pyE t i = 0 ∧ pyS t i = idS t ∧ pyI t i = i) from by
    subst hn
    refine ⟨fun h => ?_, fun h h2 => ?_, fun h h2 => ?_⟩
    · have e : pyE t i = checkD t := if_neg h
      exact ⟨e, if_neg (by rw [e]; exact h), if_neg (by rw [e]; exact h)⟩
    · have e : pyE t i = 2 := by unfold pyE; rw [if_pos h, if_pos h2]
      exact ⟨e, if_neg (by rw [e]; decide), if_neg (by rw [e]; decide)⟩
    · have e : pyE t i = 0 := by unfold pyE; rw [if_pos h, if_neg h2]
      refine ⟨e, ?_, if_pos e⟩
      unfold pyS idS
      rw [if_pos e, if_pos h])
  rw [hn] at BX2 hol
  obtain ⟨cd, hcd⟩ : ∃ cd, checkD t = cd := ⟨_, rfl⟩
  rw [hcd] at EY ⊢
  obtain ⟨s, hs⟩ : ∃ s, idS t = s := ⟨_, rfl⟩
  rw [hs] at EY ⊢
  clear hcd hs hn hp2
  obtain ⟨a0, a1, a2, a3⟩ := BX2.out
  by_cases hz : cd = 0
  · subst hz
    by_cases hi : i < 0 ∨ (n : Int) ≤ i
    · obtain ⟨y1, y2, y3⟩ := EY.out.2.1 rfl hi
      by_cases h0 : i < 0
      · go_wp2_with fail
        refine bodyPost_ret (v := .tuple #[.agg #[.string ⟨#[]⟩, .int .u32 0], .int .i64 2]) (by simp [results, Tryd.results19, go_sem, d0, d1]) rfl ?_
        exact ⟨ret_pe y2.symm y3.symm y1.symm, PB.out _ _⟩
      · have h1 : (n : Int) ≤ i := by omega
        go_wp2_with fail
        refine bodyPost_ret (v := .tuple #[.agg #[.string ⟨#[]⟩, .int .u32 0], .int .i64 2]) (by simp [results, Tryd.results19, go_sem, d0, d1]) rfl ?_
        exact ⟨ret_pe y2.symm y3.symm y1.symm, PB.out _ _⟩
    · obtain ⟨y1, y2, y3⟩ := EY.out.2.2 rfl hi
      have h0 : ¬ i < 0 := by omega
      have h1 : ¬ (n : Int) ≤ i := by omega
      have v1 : IntKind.u32.wrap i = i := by rw [IntWalk.u32_in _ (by omega)]
      go_wp2_with fail
      refine bodyPost_ret (v := .tuple #[.agg #[.string s, .int .u32 i], .int .i64 0]) (by simp [results, Tryd.results19, go_sem, d0, d1]) rfl ?_
      exact ⟨ret_pe y2.symm y3.symm y1.symm, PB.out _ _⟩
  · obtain ⟨y1, y2, y3⟩ := EY.out.1 hz
    have e1 : (cd != 0) = true := by simpa using hz
    clear hz
    go_wp2_with fail
    refine bodyPost_ret (v := .tuple #[.agg #[.string ⟨#[]⟩, .int .u32 0], .int .i64 cd]) (by simp [results, Tryd.results19, go_sem, d0, d1]) rfl ?_
    exact ⟨ret_pe y2.symm y3.symm y1.symm, PB.out _ _⟩

end Go.Proofs.YtfobdefncbaooaaDoor

namespace Go.Proofs.YtfobdefncbaooaaDoor
open Go.RowKit

/-- The grant of height 0 with one Out of 0. -/
def gT : TxD := grantD 0 [⟨0, ⟨#[]⟩⟩]
theorem g_check : checkD gT = 0 := by decide +kernel
theorem g_weight : wtN gT = 240 := by decide +kernel
theorem g_size : szN gT = 60 := by decide +kernel
theorem g_pays : pyE gT 1 = 2 := by decide +kernel
theorem g_ident : (idS gT).size = 32 := by
  unfold idS
  rw [if_pos g_check]
  exact Sh.digest_size _
theorem gT_ok : gT.Ok := by
  refine ⟨by decide, by decide, ?_, ?_, by decide, by decide, by decide, by decide⟩
  · intro x hx
    have : x = ⟨zeros, 4294967295, 4294967295, []⟩ := by simpa [gT, grantD] using hx
    subst this
    exact ⟨by decide +kernel, by decide, by decide, by decide, by decide, by decide, by simp⟩
  · intro x hx
    have : x = ⟨0, ⟨#[]⟩⟩ := by simpa [gT, grantD] using hx
    subst this
    exact ⟨by decide, by decide, by decide⟩
/-- A slice with one Out of 0. -/
theorem one_out (W : World) : Outs (W.alloc (.cells #[.int .i64 0, .string ⟨#[]⟩] 50)) W.heap.size (W.heap.size + 1) (.slice (some ⟨W.heap.size, 0, none⟩) 1 1) [⟨0, ⟨#[]⟩⟩] := by
  refine ⟨_, 1, rfl, Nat.le_refl _, .inr ⟨W.heap.size, 0, rfl, Nat.le_refl _, Nat.lt_succ_self _, fun k x hx => ?_⟩⟩
  match k, hx with
  | 0, hx =>
    simp at hx
    subst hx
    exact ⟨by simp, by simp⟩
theorem grant_one (W : World) (b : Nat) (hb : b = W.heap.size) : Calls Tryd.prog 31 #[.int .i64 0, .slice (some ⟨b, 0, none⟩) 1 1] (W.alloc (.cells #[.int .i64 0, .string ⟨#[]⟩] 50)) fun e w' => ∃ vi' vo', e = .returned (.agg #[.int .u32 2, vi', vo', .int .u32 0]) ∧ TxAt w' W.heap.size w'.heap.size vi' vo' gT ∧ Below W.heap.size W w' := by
  subst hb
  refine (grant_any 0 _ [⟨0, ⟨#[]⟩⟩] _ _ _ (one_out W) (by simp) (by simp)).mono ?_
  rintro e w1 ⟨vi, vo, rfl, ht, hb1⟩
  exact ⟨vi, vo, rfl, ht.wide (by simp) (Nat.le_refl _), below_next ((Below.refl _ _).alloc (Nat.le_refl _) _) (by simp) hb1⟩

set_option maxHeartbeats 2000000 in
set_option maxRecDepth 100000 in
theorem wakes_any (w : World) (hT : Sh.Tabs w) : Calls Tryd.prog 18 #[] w fun e w' => e = .returned (.bool true) ∧ Below w.heap.size w w' := by
  go_enter Tryd.func18, Tryd.ntmps18
  go_wp2_with fail
  refine (grant_one w _ rfl).mono ?_
  rintro e w1 ⟨vi, vo, rfl, ht, hb1⟩
  have z1 := hb1.size
  obtain ⟨A1, m1, rfl⟩ := ht.1.form
  obtain ⟨A2, m2, rfl⟩ := ht.2.form
  obtain ⟨w4, hw4⟩ : ∃ w4, w4 = w1.alloc (.cells #[.int .u32 2, .slice A1 gT.ins.length m1, .slice A2 gT.outs.length m2, .int .u32 0] 26) := ⟨_, rfl⟩
  have z4 : w4.heap.size = w1.heap.size + 1 := by rw [hw4]; simp
  have hb4 : Below w1.heap.size w1 w4 := by rw [hw4]; exact (Below.refl _ _).alloc (Nat.le_refl _) _
  have B4 := Lib.hid (show Boxed w4 w1.heap.size (.int .u32 2) (.slice A1 gT.ins.length m1) (.slice A2 gT.outs.length m2) (.int .u32 0) from by rw [hw4]; exact Boxed.new _ _ _ _ _ _)
  have T4 := Lib.hid (show TxAt w4 0 w4.heap.size (.slice A1 gT.ins.length m1) (.slice A2 gT.outs.length m2) gT from (ht.keep (Kept.of_below hb4 (Nat.le_refl _))).wide (Nat.zero_le _) (by omega))
  have K4 := Lib.hid (below_next hb1 (by omega) hb4)
  have HW4 := Lib.hid hw4
  have HT := Lib.hid (hT.below (below_next hb1 (by omega) hb4))
  clear ht hb1 hb4 hw4 hT
  have hbl : w1.heap.size < w4.heap.size := by omega
  have G := fun (W : World) (hW : Below w4.heap.size w4 W) => (T4.out.keep (Kept.of_below hW (Nat.le_refl _))).wide (Nat.le_refl _) hW.size
  have C11 := Lib.hid (fun (W : World) (hW : Below w4.heap.size w4 W) => weight_any gT _ _ W (G W hW) gT_ok)
  have C12 := Lib.hid (fun (W : World) (hW : Below w4.heap.size w4 W) => size_any gT _ _ W (G W hW) gT_ok)
  have C9 := Lib.hid (fun (W : World) (hW : Below w4.heap.size w4 W) => ident_any gT _ _ W (G W hW) gT_ok (HT.out.below hW))
  have C19 := Lib.hid (fun (W : World) (hW : Below w4.heap.size w4 W) => pays_any gT 1 _ _ W (G W hW) gT_ok (HT.out.below hW))
  rw [g_check, g_weight] at C11
  rw [g_check, g_size] at C12
  rw [g_check] at C9
  rw [g_pays] at C19
  have hz := g_ident
  obtain ⟨s, hs⟩ : ∃ s, idS gT = s := ⟨_, rfl⟩
  rw [hs] at C9 hz
  obtain ⟨s2, hs2⟩ : ∃ s, pyS gT 1 = s := ⟨_, rfl⟩
  obtain ⟨i2, hi2⟩ : ∃ s, pyI gT 1 = s := ⟨_, rfl⟩
  rw [hs2, hi2] at C19
  have hz2 : ((s.size : Int) == 32) = true := by rw [hz]; rfl
  clear hs hs2 hi2 hz G
  replace C11 := Lib.hid (fun (W : World) (hW : Below w4.heap.size w4 W) => show Calls Tryd.prog 11 #[.agg #[.int .u32 2, .slice A1 gT.ins.length m1, .slice A2 gT.outs.length m2, .int .u32 0]] W _ from C11.out W hW)
  replace C12 := Lib.hid (fun (W : World) (hW : Below w4.heap.size w4 W) => show Calls Tryd.prog 12 #[.agg #[.int .u32 2, .slice A1 gT.ins.length m1, .slice A2 gT.outs.length m2, .int .u32 0]] W _ from C12.out W hW)
  replace C9 := Lib.hid (fun (W : World) (hW : Below w4.heap.size w4 W) => show Calls Tryd.prog 9 #[.agg #[.int .u32 2, .slice A1 gT.ins.length m1, .slice A2 gT.outs.length m2, .int .u32 0]] W _ from C9.out W hW)
  replace C19 := Lib.hid (fun (W : World) (hW : Below w4.heap.size w4 W) => show Calls Tryd.prog 19 #[.agg #[.int .u32 2, .slice A1 gT.ins.length m1, .slice A2 gT.outs.length m2, .int .u32 0], .int .i64 1] W _ from C19.out W hW)
  obtain ⟨n1, hn1⟩ : ∃ n1, gT.ins.length = n1 := ⟨_, rfl⟩
  obtain ⟨n2, hn2⟩ : ∃ n2, gT.outs.length = n2 := ⟨_, rfl⟩
  rw [hn1, hn2] at B4 HW4 C11 C12 C9 C19 ⊢
  clear hn1 hn2 T4
  go_upto_region 2 with (fail)
  rw [show World.alloc w1 _ = w4 from HW4.out.symm]
  obtain ⟨a0, a1, a2, a3⟩ := B4.out
  go_wp2_with fail
  refine (C11.out w4 (Below.refl _ _)).mono ?_
  rintro e w5 ⟨rfl, hb5⟩
  have L5 := Lib.hid hb5
  clear a0 a1 a2 a3 hb5
  obtain ⟨a0, a1, a2, a3⟩ := B4.out.below hbl L5.out
  go_wp2_with fail
  refine (C12.out w5 L5.out).mono ?_
  rintro e w6 ⟨rfl, hb6⟩
  have L6 := Lib.hid (below_next L5.out L5.out.size hb6)
  clear a0 a1 a2 a3 hb6
  obtain ⟨a0, a1, a2, a3⟩ := B4.out.below hbl L6.out
  go_wp2_with fail
  refine (C9.out w6 L6.out).mono ?_
  rintro e w7 ⟨rfl, hb7⟩
  have L7 := Lib.hid (below_next L6.out L6.out.size hb7)
  clear a0 a1 a2 a3 hb7
  obtain ⟨a0, a1, a2, a3⟩ := B4.out.below hbl L7.out
  go_wp2_with fail
  refine (C19.out w7 L7.out).mono ?_
  rintro e w8 ⟨rfl, hb8⟩
  have L8 := Lib.hid (below_next L7.out L7.out.size hb8)
  clear a0 a1 a2 a3 hb8
  have KB := Lib.hid (fun o => (below_next K4.out K4.out.size L8.out).alloc (below_next K4.out K4.out.size L8.out).size o)
  go_wp2_with fail
  go_ret
  exact ⟨rfl, KB.out _⟩

end Go.Proofs.YtfobdefncbaooaaDoor

namespace Go.Proofs.YtfobdefncbaooaaDoor
open Go.RowKit


theorem ret_i {a b : Int} (h : a = b) : Ending.returned (.int .i64 a) = .returned (.int .i64 b) := by rw [h]

set_option maxHeartbeats 1000000 in
set_option maxRecDepth 100000 in
theorem rid_any (t : TxD) (vi vo : Value) (w : World) (ht : TxAt w 0 w.heap.size vi vo t) (hok : t.Ok) (hval : ∀ x ∈ t.outs, 0 ≤ x.val) :
    Calls Tryd.prog 14 #[.agg #[.int .u32 t.ver, vi, vo, .int .u32 t.lock]] w fun x w' => x = .returned (.string (dd (wireS t false))) ∧ Below w.heap.size w w' := by
  have HT := Lib.hid ht
  have HO := Lib.hid hok
  have HV := Lib.hid hval
  clear ht hok hval
  have B0 := Lib.hid (fun o => (Below.refl w.heap.size w).alloc (Nat.le_refl _) o)
  go_enter Tryd.func14, Tryd.ntmps14
  go_wp2_with fail
  refine (bytes_any t vi vo true _ ((HT.out.keep (Kept.of_below (B0.out _) (Nat.le_refl _))).wide (Nat.le_refl _) (by simp)) HO.out HV.out).mono ?_
  rintro x w1 ⟨rfl, hb1⟩
  have K1 := Lib.hid (below_next (B0.out _) (by simp) hb1)
  clear hb1
  go_wp2_with fail
  refine (Sh.rtwice_any (wireS t false) w1 (Nat.le_trans (wire_le HO.out false).2 (by omega))).mono ?_
  rintro x w2 ⟨rfl, hb2⟩
  go_wp2_with fail
  go_ret
  exact ⟨rfl, below_next K1.out K1.out.size hb2⟩

set_option maxHeartbeats 1000000 in
set_option maxRecDepth 100000 in
theorem rwhole_any (t : TxD) (vi vo : Value) (w : World) (ht : TxAt w 0 w.heap.size vi vo t) (hok : t.Ok) (hval : ∀ x ∈ t.outs, 0 ≤ x.val) :
    Calls Tryd.prog 15 #[.agg #[.int .u32 t.ver, vi, vo, .int .u32 t.lock]] w fun x w' => x = .returned (.string (dd (wireS t (hasW t)))) ∧ Below w.heap.size w w' := by
  have HT := Lib.hid ht
  have HO := Lib.hid hok
  have HV := Lib.hid hval
  clear ht hok hval
  have B0 := Lib.hid (fun o => (Below.refl w.heap.size w).alloc (Nat.le_refl _) o)
  go_enter Tryd.func15, Tryd.ntmps15
  go_wp2_with fail
  refine (bytes_any t vi vo false _ ((HT.out.keep (Kept.of_below (B0.out _) (Nat.le_refl _))).wide (Nat.le_refl _) (by simp)) HO.out HV.out).mono ?_
  rintro x w1 ⟨rfl, hb1⟩
  have K1 := Lib.hid (below_next (B0.out _) (by simp) hb1)
  clear hb1
  rw [show (!false && hasW t) = hasW t from by simp]
  go_wp2_with fail
  refine (Sh.rtwice_any (wireS t (hasW t)) w1 (Nat.le_trans (wire_le HO.out _).2 (by omega))).mono ?_
  rintro x w2 ⟨rfl, hb2⟩
  go_wp2_with fail
  go_ret
  exact ⟨rfl, below_next K1.out K1.out.size hb2⟩

/-- The document's weight of a transaction. -/
def wtD (t : TxD) : Int := 3 * ((wireS t false).size : Int) + ((wireS t (hasW t)).size : Int)
theorem wtD_bd {t : TxD} (hok : t.Ok) : 0 ≤ wtD t ∧ wtD t ≤ 4000000 := by
  have h1 := (wire_le hok false).2
  have h2 := (wire_le hok (hasW t)).2
  unfold wtD
  omega

set_option maxHeartbeats 1000000 in
set_option maxRecDepth 100000 in
theorem rweight_any (t : TxD) (vi vo : Value) (w : World) (ht : TxAt w 0 w.heap.size vi vo t) (hok : t.Ok) (hval : ∀ x ∈ t.outs, 0 ≤ x.val) :
    Calls Tryd.prog 16 #[.agg #[.int .u32 t.ver, vi, vo, .int .u32 t.lock]] w fun x w' => x = .returned (.int .i64 (wtD t)) ∧ Below w.heap.size w w' := by
  obtain ⟨A1, m1, rfl⟩ := ht.1.form
  obtain ⟨A2, m2, rfl⟩ := ht.2.form
  obtain ⟨w1, hw1⟩ : ∃ w1, w1 = w.alloc (.cells #[.int .u32 t.ver, .slice A1 t.ins.length m1, .slice A2 t.outs.length m2, .int .u32 t.lock] 26) := ⟨_, rfl⟩
  have hb1 : Below w.heap.size w w1 := by rw [hw1]; exact (Below.refl _ _).alloc (Nat.le_refl _) _
  have z1 : w1.heap.size = w.heap.size + 1 := by rw [hw1]; simp
  have BX := Lib.hid (show Boxed w1 w.heap.size (.int .u32 t.ver) (.slice A1 t.ins.length m1) (.slice A2 t.outs.length m2) (.int .u32 t.lock) from by rw [hw1]; exact Boxed.new _ _ _ _ _ _)
  have HT := Lib.hid ((ht.keep (Kept.of_below hb1 (Nat.le_refl _))).wide (Nat.le_refl _) (show w.heap.size ≤ w1.heap.size by omega))
  have HO := Lib.hid hok
  have HV := Lib.hid hval
  have K1 := Lib.hid hb1
  have HW1 := Lib.hid hw1
  clear ht hok hb1 hw1 hval
  have s1 := (wire_le HO.out false).2
  have s2 := (wire_le HO.out (hasW t)).2
  go_enter Tryd.func16, Tryd.ntmps16
  go_upto_region 1 with (fail)
  rw [show World.alloc w _ = w1 from HW1.out.symm]
  obtain ⟨a0, a1, a2, a3⟩ := BX.out
  go_wp2_with fail
  refine (bytes_any t _ _ true w1 HT.out HO.out HV.out).mono ?_
  rintro x w2 ⟨rfl, hb2⟩
  have z2 := hb2.size
  have K2 := Lib.hid (below_next K1.out (by omega) hb2)
  have HT2 := Lib.hid ((HT.out.keep (Kept.of_below hb2 (Nat.le_refl _))).wide (Nat.le_refl _) hb2.size)
  have BX2 := Lib.hid (BX.out.below (by omega) hb2)
  clear hb2 a0 a1 a2 a3
  rw [show (!true && hasW t) = false from by simp]
  have C := Lib.hid (bytes_any t _ _ false w2 HT2.out HO.out HV.out)
  rw [show (!false && hasW t) = hasW t from by simp] at C
  have EW := Lib.hid (show wtD t = 3 * ((wireS t false).size : Int) + ((wireS t (hasW t)).size : Int) from rfl)
  obtain ⟨b, hb⟩ : ∃ b, wireS t false = b := ⟨_, rfl⟩
  obtain ⟨f, hf⟩ : ∃ f, wireS t (hasW t) = f := ⟨_, rfl⟩
  rw [hb, hf] at EW
  rw [hb] at s1
  rw [hf] at s2 C
  rw [hb]
  clear hb hf
  have v1 : IntKind.i64.wrap (3 * (b.size : Int)) = 3 * (b.size : Int) := by rw [IntWalk.i64_in _ (by omega)]
  have v2 : IntKind.i64.wrap (3 * (b.size : Int) + (f.size : Int)) = 3 * (b.size : Int) + (f.size : Int) := by rw [IntWalk.i64_in _ (by omega)]
  obtain ⟨a0, a1, a2, a3⟩ := BX2.out
  go_wp2_with fail
  refine C.out.mono ?_
  rintro x w3 ⟨rfl, hb3⟩
  go_wp2_with fail
  go_ret
  exact ⟨ret_i EW.out.symm, below_next K2.out K2.out.size hb3⟩

set_option maxHeartbeats 1000000 in
set_option maxRecDepth 100000 in
theorem rsize_any (t : TxD) (vi vo : Value) (w : World) (ht : TxAt w 0 w.heap.size vi vo t) (hok : t.Ok) (hval : ∀ x ∈ t.outs, 0 ≤ x.val) :
    Calls Tryd.prog 17 #[.agg #[.int .u32 t.ver, vi, vo, .int .u32 t.lock]] w fun x w' => x = .returned (.int .i64 ((wtD t + 3) / 4)) ∧ Below w.heap.size w w' := by
  have HT := Lib.hid ht
  have HO := Lib.hid hok
  have HV := Lib.hid hval
  clear ht hok hval
  have B0 := Lib.hid (fun o => (Below.refl w.heap.size w).alloc (Nat.le_refl _) o)
  have hb := wtD_bd HO.out
  go_enter Tryd.func17, Tryd.ntmps17
  go_wp2_with fail
  refine (rweight_any t vi vo _ ((HT.out.keep (Kept.of_below (B0.out _) (Nat.le_refl _))).wide (Nat.le_refl _) (by simp)) HO.out HV.out).mono ?_
  rintro x w1 ⟨rfl, hb1⟩
  have K1 := Lib.hid (below_next (B0.out _) (by simp) hb1)
  clear hb1
  obtain ⟨n, hn⟩ : ∃ n, wtD t = n := ⟨_, rfl⟩
  rw [hn]
  rw [hn] at hb
  have EN := Lib.hid (show (n + 3) / 4 = (wtD t + 3) / 4 from by rw [hn])
  clear hn
  have u1 : n.tmod 4 = n % 4 := Int.tmod_eq_emod_of_nonneg (by omega)
  have u2 : n.tdiv 4 = n / 4 := Int.tdiv_eq_ediv_of_nonneg (by omega)
  have u3 : IntKind.i64.wrap (n / 4) = n / 4 := by rw [IntWalk.i64_in _ (by omega)]
  have u4 : IntKind.i64.wrap (n / 4 + 1) = n / 4 + 1 := by rw [IntWalk.i64_in _ (by omega)]
  have u5 : IntKind.i64.wrap (n % 4) = n % 4 := by rw [IntWalk.i64_in _ (by omega)]
  by_cases hz : n % 4 = 0
  · have e1 : (n % 4 == 0) = true := by simp [hz]
    have EZ := Lib.hid (show n / 4 = (n + 3) / 4 by omega)
    go_wp2_with fail
    go_ret
    exact ⟨ret_i (EZ.out.trans EN.out), K1.out⟩
  · have e1 : (n % 4 == 0) = false := by simp [hz]
    have EZ := Lib.hid (show n / 4 + 1 = (n + 3) / 4 by omega)
    clear hz
    go_wp2_with fail
    go_ret
    exact ⟨ret_i (EZ.out.trans EN.out), K1.out⟩

end Go.Proofs.YtfobdefncbaooaaDoor
