/-
  What the document's call Gather answers.
-/
import Derived.Test.YtddfhgdejlkdgaaPc12
set_option linter.unusedVariables false
namespace Go.Proofs.Ytddfhgdejlkdgaa
open Go.RowKit

/-- v is a list of numbers in memory -/
def IL (w : World) (v : Value) (l : List Int) : Prop :=
  ∃ A cap, v = .slice A l.length cap ∧ (0 < l.length → ∃ g off, A = some ⟨g, off, none⟩ ∧ g < w.heap.size ∧ l.length ≤ cap ∧ ∀ i, i < l.length → w.cell? ⟨g, off + i, none⟩ = some (.int .i64 (l.getD i 0)))
theorem IL.keep {w w1 : World} {v : Value} {l : List Int} (h : IL w v l) (hb : Below w.heap.size w w1) : IL w1 v l := by
  obtain ⟨A, cap, hv, h⟩ := h
  refine ⟨A, cap, hv, fun hl => ?_⟩
  obtain ⟨g, off, hA, hg, hc, hi⟩ := h hl
  exact ⟨g, off, hA, Nat.lt_of_lt_of_le hg hb.size, hc, fun i h => by rw [(bcell hb).1 _ _ hg]; exact hi i h⟩
theorem IL.form {w : World} {v : Value} {l : List Int} {n : Nat} (h : IL w v l) (hn : l.length = n) : ∃ A cap, v = .slice A n cap ∧
    ∀ w1 i, Below w.heap.size w w1 → i < n → ∃ g off, A = some ⟨g, off, none⟩ ∧ n ≤ cap ∧ g < w1.heap.size ∧ w1.cell? ⟨g, off + i, none⟩ = some (.int .i64 (l.getD i 0)) := by
  obtain ⟨A, cap, hv, h⟩ := h
  refine ⟨A, cap, by rw [hv, hn], fun w1 i hb hi => ?_⟩
  obtain ⟨g, off, hA, hg, hc, hcell⟩ := h (by omega)
  refine ⟨g, off, hA, by omega, Nat.lt_of_lt_of_le hg hb.size, ?_⟩
  rw [(bcell hb).1 _ _ hg]; exact hcell i (by omega)
theorem OwnI.il {w : World} {base : Nat} {v : Value} {l : List Int} (h : OwnI w base v l) : IL w v l := by
  have h' := h
  rcases h.2 with ⟨hv, hn⟩ | ⟨g, cap, cur, hv, hb, hg, h1, h2, h3, h4⟩
  · have : l = [] := by simpa using hn
    subst this
    exact ⟨none, 0, hv, fun h => by simp at h⟩
  · subst hv
    refine ⟨some ⟨g, 0, none⟩, cap, rfl, fun _ => ⟨g, 0, rfl, (Array.getElem?_eq_some_iff.1 hg).1, h1, fun i hi => ?_⟩⟩
    rw [Nat.zero_add]
    rw [World.ownsRow.cellAt h' i (by omega)]
    simp [List.getD_eq_getElem?_getD, List.getElem?_eq_getElem hi]
theorem places_nn {l : List Sp} (h : PBs l) : ∀ y ∈ placesL l, 0 ≤ y ∧ y ≤ 2199023255552 := fun y hy => by
  obtain ⟨x, hx, hy⟩ := List.mem_flatMap.1 hy
  obtain ⟨i, hi, rfl⟩ := List.mem_map.1 hy
  obtain ⟨h1, h2, h3, h4⟩ := h x hx
  have := List.mem_range.1 hi
  omega
set_option maxHeartbeats 500000 in
theorem refGather_any (v u : Value) (I : List Nat) (l : List Sp) (w : World) (hl : PBs l) (hlen : l.length ≤ 1000) (hI : I.length ≤ 1000000) (hv : KL .u64 w v I) (hu : PL w u l) :
    Calls Try.prog 19 #[v, u] w fun e w' => ∃ v', e = .returned v' ∧ OwnU w' w.heap.size v' (gathL I l) ∧ Below w.heap.size w w' := by
  obtain ⟨NI, hNI⟩ : ∃ n, I.length = n := ⟨_, rfl⟩
  obtain ⟨AI, capI, rfl, hCI⟩ := hv.form hNI
  have hPl := Lib.hid (refPlaces_any u l w hl hlen hu)
  have hlt := placesL_tk l hl l.length (Nat.le_refl _)
  rw [List.take_of_length_le (Nat.le_refl _)] at hlt
  have hnn := places_nn hl
  have hG : gathL I l = (placesL l).map (imgAt I) := rfl
  generalize placesL l = P at *
  rw [hG]
  obtain ⟨n, hn⟩ : ∃ n, P.length = n := ⟨_, rfl⟩
  have hn9 : n ≤ 1000000 := by omega
  have hI9 : NI ≤ 1000000 := by omega
  have hT := Lib.hid (fun k (hk : k < n) => show (P.take (k + 1)).map (imgAt I) = (P.take k).map (imgAt I) ++ [imgAt I (P.getD k 0)] ∧ 0 ≤ P.getD k 0 ∧ P.getD k 0 ≤ 2199023255552 from by
    have hm : P.getD k 0 ∈ P := by rw [List.getD_eq_getElem?_getD, List.getElem?_eq_getElem (by omega)]; exact List.getElem_mem _
    refine ⟨?_, hnn _ hm⟩
    rw [List.take_succ_eq_append_getElem (by omega), List.map_append, List.getD_eq_getElem?_getD, List.getElem?_eq_getElem (by omega)]
    rfl)
  have hE := Lib.hid (show (P.take n).map (imgAt I) = P.map (imgAt I) from by rw [List.take_of_length_le (by omega)])
  have hIn := Lib.hid (fun i => imgAt_nat I i)
  have hIf := Lib.hid (fun y (h : (NI : Int) ≤ y) => imgAt_far I y (by rw [hNI]; exact h))
  replace hCI := Lib.hid hCI
  replace hn := Lib.hid hn
  replace hNI := Lib.hid hNI
  clear hv hu hl hlen hI hlt hnn hG
  go_enter Try.func19, Try.ntmps19
  go_wp2_with fail
  refine hPl.out.mono ?_
  rintro e w1 ⟨vp, rfl, hop, hb1⟩
  have hil := hop.il
  obtain ⟨A, cap, rfl, hC⟩ := hil.form hn.out
  replace hC := Lib.hid hC
  clear hop hil hPl
  go_wp2_with fail
  go_loopw [5, 7, 8] (fun o x z wr => ∃ (k : Nat) (L : List Nat), k ≤ n ∧ x = .int .i64 k ∧ Hid (L = (P.take k).map (imgAt I)) ∧ L.length = k ∧ OwnU wr w1.heap.size o L ∧ Below w1.heap.size w1 wr) (fun _ x _ _ => n + 1 - (intOf x).toNat)
  case atStart => exact ⟨0, [], Nat.zero_le _, rfl, rfl, rfl, World.ownsRow_nil _ _ _ _, Below.refl _ _⟩
  case round =>
    obtain ⟨k, L, hk, rfl, hLe, hLl, hown, hB1r⟩ := hrel
    by_cases hlt : k < n
    · obtain ⟨g, off, rfl, hcap, hg, c0⟩ := hC.out wr k hB1r hlt
      have hlt' : (k : Int) < (n : Int) := by omega
      obtain ⟨t1, t2, t3⟩ := hT.out k hlt
      rw [← hLe.out] at t1
      have hB := hb1.trans (hB1r.mono hb1.size)
      generalize P.getD k 0 = y at *
      obtain ⟨i, rfl⟩ := Int.eq_ofNat_of_zero_le t2
      by_cases k2 : i < NI
      · obtain ⟨gi, oi, rfl, hcapi, hgi, d0⟩ := hCI.out wr i hB k2
        rw [hIn.out i] at t1
        generalize I.getD i 0 = z at *
        have hLn := Lib.hid t1.symm
        have k2' : (i : Int) < (NI : Int) := by omega
        clear t1
        obtain ⟨v', w2, hrun, hown', hgr, _⟩ := appU (w := wr.alloc (.cells #[.int .u64 (z : Nat)] (43 : Nat))) (y := z) (base := w1.heap.size) (hown.alloc _) (cell_new1 wr _ _) (by have := hB1r.size; simp; omega) (by omega)
        have hb2 : Below w1.heap.size w1 w2 := (hB1r.alloc hB1r.size _).grown hgr (by have := hB1r.size; simp; omega) (fun j hj => (World.ownsRow.lt hown j hj).1)
        have hown2 : OwnU w2 w1.heap.size v' (L ++ [z]) := by unfold OwnU; rw [List.length_append, List.map_append]; exact hown'
        clear hgr hown hown'
        go_wp2_with (at_builtin; refine wpList_append_run rfl _ _ 34 rfl _ _ _ rfl rfl hrun ?_)
        go_roundw
        case rel => exact ⟨k + 1, _, by omega, by go_num, hLn, by rw [List.length_append, hLl]; rfl, hown2, hb2⟩
        case measure => simp [intOf]; omega
      · have k3 : (NI : Int) ≤ (i : Int) := by omega
        rw [hIf.out _ k3] at t1
        have hLn := Lib.hid t1.symm
        clear t1
        obtain ⟨v', w2, hrun, hown', hgr, _⟩ := appU (w := wr.alloc (.cells #[.int .u64 (0 : Nat)] (43 : Nat))) (y := 0) (base := w1.heap.size) (hown.alloc _) (cell_new1 wr _ _) (by have := hB1r.size; simp; omega) (by omega)
        have hb2 : Below w1.heap.size w1 w2 := (hB1r.alloc hB1r.size _).grown hgr (by have := hB1r.size; simp; omega) (fun j hj => (World.ownsRow.lt hown j hj).1)
        have hown2 : OwnU w2 w1.heap.size v' (L ++ [0]) := by unfold OwnU; rw [List.length_append, List.map_append]; exact hown'
        clear hgr hown hown'
        go_wp2_with (at_builtin; refine wpList_append_run rfl _ _ 34 rfl _ _ _ rfl rfl hrun ?_)
        go_roundw
        case rel => exact ⟨k + 1, _, by omega, by go_num, hLn, by rw [List.length_append, hLl]; rfl, hown2, hb2⟩
        case measure => simp [intOf]; omega
    · obtain rfl : k = n := by omega
      have hR := Lib.hid (show L = P.map (imgAt I) from by rw [hLe.out, hE.out])
      go_wp2_with fail
      go_ret
      exact ⟨_, rfl, by rw [← hR.out]; exact hown.mono hb1.size, hb1.trans (hB1r.mono hb1.size)⟩
end Go.Proofs.Ytddfhgdejlkdgaa
