/-
  Package tile: Chunks, and the document's Chunks.
-/
import Derived.Test.YtnjifmecaeagaaaDoorTi1
set_option linter.unusedVariables false
set_option linter.unusedSimpArgs false
namespace Go.Proofs.YtnjifmecaeagaaaDoor
open Go.RowKit Go.ChangeShapes Go.WideShapes Go.Deep

theorem cellK5 {w w1 : World} {b o : Nat} {v : Value} (h : w.cell? ⟨b, o, none⟩ = some v) (hb : Below w.heap.size w w1) : w1.cell? ⟨b, o, none⟩ = some v := by
  rw [(bcell hb).1 _ _ (World.block_lt_of_cell? _ _ h)]; exact h
/-- a block just made that holds one chunk -/
theorem eC_new (w : World) (x : Nat) (t : TypeId) : CKL (w.alloc (.cells #[.int .i64 (kN x : Nat), .int .i64 (cN x : Nat), .int .i64 (lnN x : Nat), .int .i64 (mN x : Nat), .int .u64 (bN x : Nat)] t)) (.slice (some ⟨w.heap.size, 0, none⟩) 1 1) [x] := by
  refine ⟨_, _, rfl, fun _ => ⟨w.heap.size, 0, rfl, by simp, by simp, fun i hi j hj => ?_⟩⟩
  have hi0 : i = 0 := by simp at hi; omega
  subst hi0
  have h5 : j = 0 ∨ j = 1 ∨ j = 2 ∨ j = 3 ∨ j = 4 := by omega
  rcases h5 with rfl | rfl | rfl | rfl | rfl <;> simp [go_sem, eC]
theorem WL.at {l : List Nat} (h : WL l) (i : Nat) (hi : i < l.length) : l.getD i 0 < 18446744073709551616 := by
  rw [List.getD_eq_getElem?_getD, List.getElem?_eq_getElem hi]
  exact h _ (List.getElem_mem hi)
theorem take_all {l : List Nat} {n : Nat} (h : l.length = n) : l.take n = l := List.take_of_length_le (by omega)
theorem take_snoc {l : List Nat} {k : Nat} (h : k < l.length) : l.take (k + 1) = l.take k ++ [l.getD k 0] := by
  rw [List.take_succ_eq_append_getElem h, List.getD_eq_getElem?_getD, List.getElem?_eq_getElem h]; rfl
theorem snoc_all {l : List Nat} {k n : Nat} (hn : l.length = n) (hk : k < n) (h1 : (l.take k).all okN = true) (h2 : okN (l.getD k 0) = true) : (l.take (k + 1)).all okN = true := by
  rw [take_snoc (by omega), List.all_append, h1]; simp only [List.all_cons, List.all_nil, h2, Bool.and_self]
theorem not_all {l : List Nat} {k n : Nat} (hn : l.length = n) (hk : k < n) (h2 : okN (l.getD k 0) = false) : l.all okN = false := by
  cases h : l.all okN with
  | false => rfl
  | true => rw [all_at h (by omega)] at h2; cases h2

def ChunksP (w : World) (t : List Nat) (e : Ending) (w' : World) : Prop :=
  (t.all okN = true ∧ ∃ v', e = .returned (.tuple #[v', .bool true]) ∧ CKO w' w.heap.size v' t) ∨ (t.all okN = false ∧ e = .returned (.tuple #[.slice none 0 0, .bool false]))

set_option maxRecDepth 10000 in
set_option maxHeartbeats 700000 in
theorem chunks_any (v : Value) (t : List Nat) (w : World) (hw : Lw w) (hv : KL .u64 w v t) (hW : WL t) (hl : t.length ≤ 100000) :
    Calls Tryd.prog 16 #[v] w fun e w' => ChunksP w t e w' ∧ Below w.heap.size w w' := by
  obtain ⟨n, hn⟩ : ∃ n, t.length = n := ⟨_, rfl⟩
  obtain ⟨A, cap, rfl, hC⟩ := hv.form hn
  replace hC := Lib.hid hC
  have hWx := Lib.hid (fun k (hk : k < n) => show t.getD k 0 < 18446744073709551616 from hW.at k (by omega))
  have hSn := Lib.hid (fun k (hk : k < n) => snoc_all hn hk)
  have hNo := Lib.hid (fun k (hk : k < n) => not_all hn hk)
  have hTs := Lib.hid (fun k (hk : k < n) => take_snoc (l := t) (k := k) (by omega))
  have hTa := Lib.hid (take_all hn)
  have hTl := Lib.hid (fun k (hk : k ≤ n) => show (t.take k).length = k from by rw [List.length_take]; omega)
  have hn9 : n ≤ 100000 := by omega
  replace hn := Lib.hid hn
  have hwh := Lib.hid hw
  clear hv hW hl hw
  obtain ⟨i0, hi, hz0, hz1, hz2⟩ := info_parts infoC
  go_enter Tryd.func16, Tryd.ntmps16
  go_wp2_with (at_make; refine wpList_make_own _ rfl _ _ 24 rfl w.heap.size 29 i0 (.agg #[.int .i64 0, .int .i64 0, .int .i64 0, .int .i64 0, .int .u64 0]) 5 Tryd.underlying24 hi hz0 hz1 .i64 .i64 _ n rfl rfl rfl (by rw [hz2]; omega) (by unfold maxLen; omega) (Nat.le_refl _) ?_; intro w1 hown0 hgr; have hB0 : Below w.heap.size w w1 := (Below.refl _ _).grown hgr (Nat.le_refl _) (by simp); have hO0 : CKO w1 w.heap.size (.slice (some ⟨w.heap.size, 0, none⟩) 0 n) [] := hown0; clear hown0 hgr)
  go_loopw [14, 4] (fun i l wr => ∃ (j : Nat) (J : List Nat), j ≤ n ∧ i = .int .i64 j ∧ Hid (J = t.take j ∧ J.all okN = true) ∧ CKO wr w.heap.size l J ∧ Below w.heap.size w wr) (fun i _ _ => n + 1 - (intOf i).toNat)
  case atStart => exact ⟨0, [], Nat.zero_le _, rfl, ⟨by simp, by simp⟩, hO0, hB0⟩
  case round =>
    obtain ⟨j, J, hj, rfl, hJ, hown, hB⟩ := hrel
    by_cases hlt : j < n
    · obtain ⟨g, off, rfl, hcap, hg, c0⟩ := hC.out wr j hB hlt
      have hlt' : (j : Int) < (n : Int) := by omega
      have hx := hWx.out j hlt
      have hJl : J.length = j := by rw [hJ.out.1]; exact hTl.out j hj
      have hsn := hSn.out j hlt
      have hno := hNo.out j hlt
      have hts := hTs.out j hlt
      rw [← hJ.out.1] at hts hsn
      generalize t.getD j 0 = x at *
      replace hts := Lib.hid hts
      have hlw := hwh.out.keep hB
      cases hok : okN x with
      | true =>
        have hsn2 := Lib.hid (hsn hJ.out.2 hok)
        have hD := dcY x wr hlw hx hok
        clear hsn hno hok hlw
        go_wp2_with fail
        refine hD.mono ?_
        rintro e w1 ⟨rfl, hb⟩
        have hB1 := hB.trans (hb.mono hB.size)
        have ho1 := hown.keep hb
        -- the chunk's own block, and the literal's
        have hA1 := (Below.refl w1.heap.size w1).alloc (Nat.le_refl _) (.cells #[.int .i64 (kN x : Nat), .int .i64 (cN x : Nat), .int .i64 (lnN x : Nat), .int .i64 (mN x : Nat), .int .u64 (bN x : Nat)] 29)
        generalize hw2 : w1.alloc (.cells #[.int .i64 (kN x : Nat), .int .i64 (cN x : Nat), .int .i64 (lnN x : Nat), .int .i64 (mN x : Nat), .int .u64 (bN x : Nat)] 29) = w2 at *
        obtain ⟨v', w4, hrun, ho4, hg4, _, _⟩ := appE cT ((ho1.keep hA1).alloc (.cells #[.int .i64 (kN x : Nat), .int .i64 (cN x : Nat), .int .i64 (lnN x : Nat), .int .i64 (mN x : Nat), .int .u64 (bN x : Nat)] (29 : Nat))) (eC_new w2 x (29 : Nat)) (by have := hB1.size; have := hA1.size; simp; omega) (by omega) (by simp)
        have hs2 : w2.heap.size = w1.heap.size + 1 := by rw [← hw2]; simp
        have hc5 := C5.new w1 (kN x : Nat) (cN x : Nat) (lnN x : Nat) (mN x : Nat) (bN x : Nat) 29
        rw [hw2] at hc5
        have hB4 : Below w.heap.size w w4 := ((hB1.trans (hA1.mono hB1.size)).alloc (by have := hB1.size; omega) _).trans (grown_below hg4 (by have := hB1.size; simp; omega) (fun k hk => (ho1.lt k hk).1))
        clear hA1 hg4 hD hb
        subst hw2
        simp only [World.size_alloc] at hrun
        go_wp2_with (at_builtin; refine wpList_append_run rfl _ _ 24 rfl _ _ _ rfl rfl hrun ?_)
        go_roundw
        case rel => exact ⟨j + 1, J ++ [x], by omega, by go_num, ⟨hts.out.symm, by rw [← hts.out]; exact hsn2.out⟩, ho4, hB4⟩
        case measure => first | (simp [intOf]; done) | (simp [intOf]; omega)
      | false =>
        have hno2 := Lib.hid (hno hok)
        have hD := dcN x wr hlw hx hok
        clear hsn hno hok hlw
        go_wp2_with fail
        refine hD.mono ?_
        rintro e w1 ⟨rfl, hb⟩
        have hB1 := hB.trans (hb.mono hB.size)
        go_wp2_with fail
        go_ret2
        exact ⟨.inr ⟨hno2.out, rfl⟩, hB1.alloc hB1.size _⟩
    · obtain rfl : j = n := by omega
      have hJt := hTa.out
      rw [← hJ.out.1] at hJt
      subst hJt
      go_wp2_with fail
      go_ret2
      exact ⟨.inl ⟨hJ.out.2, _, rfl, hown⟩, hB⟩

set_option maxRecDepth 10000 in
set_option maxHeartbeats 700000 in
theorem refChunks_any (v : Value) (t : List Nat) (w : World) (hw : Lw w) (hv : KL .u64 w v t) (hW : WL t) (hl : t.length ≤ 100000) :
    Calls Tryd.prog 17 #[v] w fun e w' => ChunksP w t e w' ∧ Below w.heap.size w w' := by
  obtain ⟨n, hn⟩ : ∃ n, t.length = n := ⟨_, rfl⟩
  obtain ⟨A, cap, rfl, hC⟩ := hv.form hn
  replace hC := Lib.hid hC
  have hWx := Lib.hid (fun k (hk : k < n) => show t.getD k 0 < 18446744073709551616 from hW.at k (by omega))
  have hSn := Lib.hid (fun k (hk : k < n) => snoc_all hn hk)
  have hNo := Lib.hid (fun k (hk : k < n) => not_all hn hk)
  have hTs := Lib.hid (fun k (hk : k < n) => take_snoc (l := t) (k := k) (by omega))
  have hTa := Lib.hid (take_all hn)
  have hTl := Lib.hid (fun k (hk : k ≤ n) => show (t.take k).length = k from by rw [List.length_take]; omega)
  have hn9 : n ≤ 100000 := by omega
  replace hn := Lib.hid hn
  have hwh := Lib.hid hw
  clear hv hW hl hw
  go_enter Tryd.func17, Tryd.ntmps17
  go_wp2_with fail
  go_loopw [5, 4] (fun i l wr => ∃ (j : Nat) (J : List Nat), j ≤ n ∧ i = .int .i64 j ∧ Hid (J = t.take j ∧ J.all okN = true) ∧ CKO wr w.heap.size l J ∧ Below w.heap.size w wr) (fun i _ _ => n + 1 - (intOf i).toNat)
  case atStart => exact ⟨0, [], Nat.zero_le _, rfl, ⟨by simp, by simp⟩, OwnE.nil _ _ _ _ _, Below.refl _ _⟩
  case round =>
    obtain ⟨j, J, hj, rfl, hJ, hown, hB⟩ := hrel
    by_cases hlt : j < n
    · obtain ⟨g, off, rfl, hcap, hg, c0⟩ := hC.out wr j hB hlt
      have hlt' : (j : Int) < (n : Int) := by omega
      have hx := hWx.out j hlt
      have hJl : J.length = j := by rw [hJ.out.1]; exact hTl.out j hj
      have hsn := hSn.out j hlt
      have hno := hNo.out j hlt
      have hts := hTs.out j hlt
      rw [← hJ.out.1] at hts hsn
      generalize t.getD j 0 = x at *
      replace hts := Lib.hid hts
      have hlw := hwh.out.keep hB
      cases hok : okN x with
      | true =>
        have hsn2 := Lib.hid (hsn hJ.out.2 hok)
        have hD := rdcY x wr hlw hx hok
        clear hsn hno hok hlw
        go_wp2_with fail
        refine hD.mono ?_
        rintro e w1 ⟨rfl, hb⟩
        have hB1 := hB.trans (hb.mono hB.size)
        have ho1 := hown.keep hb
        -- the chunk's own block, and the literal's
        have hA1 := (Below.refl w1.heap.size w1).alloc (Nat.le_refl _) (.cells #[.int .i64 (kN x : Nat), .int .i64 (cN x : Nat), .int .i64 (lnN x : Nat), .int .i64 (mN x : Nat), .int .u64 (bN x : Nat)] 29)
        generalize hw2 : w1.alloc (.cells #[.int .i64 (kN x : Nat), .int .i64 (cN x : Nat), .int .i64 (lnN x : Nat), .int .i64 (mN x : Nat), .int .u64 (bN x : Nat)] 29) = w2 at *
        obtain ⟨v', w4, hrun, ho4, hg4, _, _⟩ := appE cT ((ho1.keep hA1).alloc (.cells #[.int .i64 (kN x : Nat), .int .i64 (cN x : Nat), .int .i64 (lnN x : Nat), .int .i64 (mN x : Nat), .int .u64 (bN x : Nat)] (29 : Nat))) (eC_new w2 x (29 : Nat)) (by have := hB1.size; have := hA1.size; simp; omega) (by omega) (by simp)
        have hs2 : w2.heap.size = w1.heap.size + 1 := by rw [← hw2]; simp
        have hc5 := C5.new w1 (kN x : Nat) (cN x : Nat) (lnN x : Nat) (mN x : Nat) (bN x : Nat) 29
        rw [hw2] at hc5
        have hB4 : Below w.heap.size w w4 := ((hB1.trans (hA1.mono hB1.size)).alloc (by have := hB1.size; omega) _).trans (grown_below hg4 (by have := hB1.size; simp; omega) (fun k hk => (ho1.lt k hk).1))
        clear hA1 hg4 hD hb
        subst hw2
        simp only [World.size_alloc] at hrun
        go_wp2_with (at_builtin; refine wpList_append_run rfl _ _ 24 rfl _ _ _ rfl rfl hrun ?_)
        go_roundw
        case rel => exact ⟨j + 1, J ++ [x], by omega, by go_num, ⟨hts.out.symm, by rw [← hts.out]; exact hsn2.out⟩, ho4, hB4⟩
        case measure => first | (simp [intOf]; done) | (simp [intOf]; omega)
      | false =>
        have hno2 := Lib.hid (hno hok)
        have hD := rdcN x wr hlw hx hok
        clear hsn hno hok hlw
        go_wp2_with fail
        refine hD.mono ?_
        rintro e w1 ⟨rfl, hb⟩
        have hB1 := hB.trans (hb.mono hB.size)
        go_wp2_with fail
        go_ret2
        exact ⟨.inr ⟨hno2.out, rfl⟩, hB1.alloc hB1.size _⟩
    · obtain rfl : j = n := by omega
      have hJt := hTa.out
      rw [← hJ.out.1] at hJt
      subst hJt
      go_wp2_with fail
      go_ret2
      exact ⟨.inl ⟨hJ.out.2, _, rfl, hown⟩, hB⟩
end Go.Proofs.YtnjifmecaeagaaaDoor
