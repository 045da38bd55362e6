/-
  What package piece's call Scatter answers.
-/
import Derived.Test.YtddfhgdejlkdgaaPc16
import Derived.Test.YtddfhgdejlkdgaaRegW
import Derived.Test.YtddfhgdejlkdgaaRegX
set_option linter.unusedVariables false
namespace Go.Proofs.Ytddfhgdejlkdgaa
open Go.RowKit Go.Shelf
attribute [local go_sem] Oper.semAt_some

theorem kp_set {n₀ Bo Bi : Nat} {X Y : World} (hB : Below n₀ X Y) (hne : Bo ≠ Bi) (hh : ∀ b, ¬ OwnAt X Bo b → b ≠ Bi → Y.heap[b]? = X.heap[b]?) (hno : ¬ OwnAt X Bo Bo) : Kp n₀ Bo Bi X Y := by
  have hc : Y.cell? ⟨Bo, 0, none⟩ = X.cell? ⟨Bo, 0, none⟩ := World.cell?_of_block (hh Bo hno hne)
  have ho : ∀ b, OwnAt Y Bo b ↔ OwnAt X Bo b := fun b => by unfold OwnAt; rw [hc]
  exact ⟨hB, fun b cs t f hb _ hni ho' => hh b ho' hni, fun b _ q => (ho b).1 q, fun q b hb => Nat.lt_of_lt_of_le (q b ((ho b).1 hb)) hB.size⟩
theorem scatN_lenI (I : List Nat) (P : List Int) (ws : List Nat) (k : Nat) : (scatN I P ws k).length = I.length := scatN_len I P ws k
theorem scatN_pre (I : List Nat) (pre q : List Int) (ws : List Nat) : ∀ k, k ≤ pre.length → scatN I (pre ++ q) ws k = scatN I pre ws k
  | 0, _ => rfl
  | k + 1, h => by
    unfold scatN
    rw [scatN_pre I pre q ws k (by omega), List.getD_eq_getElem?_getD, List.getElem?_append_left (by omega), ← List.getD_eq_getElem?_getD]
theorem scatN_snoc (I : List Nat) (pre : List Int) (y : Int) (ws : List Nat) : scatN I (pre ++ [y]) ws (pre ++ [y]).length = if 0 ≤ y ∧ y < (I.length : Int) then (scatN I pre ws pre.length).set y.toNat (ws.getD pre.length 0) else scatN I pre ws pre.length := by
  rw [List.length_append, List.length_singleton, scatN, scatN_pre I pre [y] ws pre.length (Nat.le_refl _), List.getD_eq_getElem?_getD, List.getElem?_append_right (Nat.le_refl _)]
  simp
theorem scatN_stop (I : List Nat) (pre : List Int) (y : Int) (ws : List Nat) (k : Nat) (h : pre.length = k) : scatN I (pre ++ [y]) ws k = scatN I pre ws pre.length := by
  rw [← h, scatN_pre I pre [y] ws pre.length (Nat.le_refl _)]

set_option maxRecDepth 100000 in
set_option maxHeartbeats 1000000 in
theorem scatter_any_in (n : Nat) (hn : 4 ≤ n) (AI A AW : Option Addr) (NI capI N cap NW capW : Nat) (I ws : List Nat) (L : List Sp) (w : World) (hI : I.length = NI) (hI9 : NI ≤ 100000) (hL : PBs L) (hlen : L.length = N) (hN : N ≤ 1000) (hws : ws.length = NW) (hNW : NW ≤ 100000)
    (hCI : KL .u64 w (.slice AI NI capI) I)
    (hCW : ∀ w1 i, Below w.heap.size w w1 → i < NW → ∃ g off, AW = some ⟨g, off, none⟩ ∧ NW ≤ capW ∧ g < w1.heap.size ∧ w1.cell? ⟨g, off + i, none⟩ = some (.int .u64 (ws.getD i 0 : Nat)))
    (hC : ∀ w1 i, Below w.heap.size w w1 → i < N → ∃ g off, A = some ⟨g, off, none⟩ ∧ N ≤ cap ∧ g < w1.heap.size ∧ w1.cell? ⟨g, off + i * 2, none⟩ = some (.int .i64 (L.getD i (0, 0)).1) ∧ w1.cell? ⟨g, off + i * 2 + 1, none⟩ = some (.int .i64 (L.getD i (0, 0)).2)) :
    CallsIn Fence.wide n Try.prog 20 #[.slice AI NI capI, .slice A N cap, .slice AW NW capW] w fun e W' => ∃ v, e = .returned v ∧ OwnU W' w.heap.size v (scatN I (placesL L) ws (min (placesL L).length NW)) ∧ Below w.heap.size w W' := by
  have hn1 : 1 ≤ n := by omega
  refine callsIn_of_wp_marks Try.func20 rfl trivial ?_ rfl
  simp only [Try.ntmps20, List.size_toArray, List.length_cons, List.length_nil, Nat.reduceAdd, Nat.reduceSub, Array.replicate_succ, Array.replicate_zero, List.push_toArray, List.append_toArray, List.nil_append, List.cons_append]
  gi_wp2
  refine ⟨trivial, (callsIn_wide.2 (clone_any _ I _ (by omega) (hCI.keep ((Below.refl _ _).alloc (Nat.le_refl _) _)))).mono ?_⟩
  rintro e w1 ⟨vo, rfl, ho, hb1⟩
  have hba : Below w.heap.size w (w.alloc (.cells #[.slice AW NW capW] (34 : Nat))) := (Below.refl _ _).alloc (Nat.le_refl _) _
  have hB1 := hba.trans (hb1.mono (by simp))
  have bW0 := Boxed.new w 34 (.slice AW NW capW)
  have bW1 : Boxed w1 w.heap.size 34 (.slice AW NW capW) := (hb1.block _ (by simp)).trans bW0
  rw [World.size_alloc] at ho
  have hf : ∃ Ao co, vo = .slice Ao NI co ∧ (0 < NI → ∃ g, Ao = some ⟨g, 0, none⟩) := by
    rcases ho.2 with ⟨h, h0⟩ | ⟨g, cap, cur, h, _⟩
    · exact ⟨none, 0, by rw [h, ← hI, h0], fun q => by omega⟩
    · exact ⟨_, _, by rw [h, hI], fun _ => ⟨g, rfl⟩⟩
  obtain ⟨Ao, co, rfl, hAo⟩ := hf
  gi_wp2
  refine ⟨trivial, (places_in (n - 1) A N cap _).mono ?_⟩
  rintro e w' ⟨rfl, rfl⟩
  gi_wp2
  have bW := ((bW1.alloc (.cells #[.slice Ao NI co] 34)).alloc (.cells #[.int .i64 0] 3)).alloc (.cells #[.slice A N cap] 22)
  have bO := ((Boxed.new w1 34 (.slice Ao NI co)).alloc (.cells #[.int .i64 0] 3)).alloc (.cells #[.slice A N cap] 22)
  have bI := (Boxed.new (w1.alloc (.cells #[.slice Ao NI co] 34)) 3 (.int .i64 0)).alloc (.cells #[.slice A N cap] 22)
  have bL := Boxed.new ((w1.alloc (.cells #[.slice Ao NI co] 34)).alloc (.cells #[.int .i64 0] 3)) 22 (.slice A N cap)
  have hrow : ((((w1.alloc (.cells #[.slice Ao NI co] 34)).alloc (.cells #[.int .i64 0] 3)).alloc (.cells #[.slice A N cap] 22))).ownsRow (w.heap.size + 1) 43 1 (.slice Ao NI co) NI (I.map fun x : Nat => Value.int .u64 x) := by
    have h := ho
    unfold OwnU at h
    rw [hI] at h
    exact ((h.alloc _).alloc _).alloc _
  have hlt1 : ∀ b, (Value.slice Ao NI co).ownBlock = some b → w.heap.size + 1 ≤ b ∧ b < w1.heap.size := fun b q => World.ownsRow.lt ho b q
  have hs1 := hB1.size
  have hs2 := hb1.size
  rw [World.size_alloc] at hs2
  have hB0 : Below w.heap.size w (((w1.alloc (.cells #[.slice Ao NI co] 34)).alloc (.cells #[.int .i64 0] 3)).alloc (.cells #[.slice A N cap] 22)) := ((hB1.alloc hB1.size _).alloc (by simp; omega) _).alloc (by simp; omega) _
  have hsz : ((((w1.alloc (.cells #[.slice Ao NI co] 34)).alloc (.cells #[.int .i64 0] 3)).alloc (.cells #[.slice A N cap] 22))).heap.size = w1.heap.size + 3 := by simp
  simp only [World.size_alloc] at bO bL bI
  obtain ⟨W0, hW0⟩ : ∃ W0, W0 = ((((w1.alloc (.cells #[.slice Ao NI co] 34)).alloc (.cells #[.int .i64 0] 3)).alloc (.cells #[.slice A N cap] 22)) : World) := ⟨_, rfl⟩
  rw [← hW0] at bO bL bI bW hB0 hsz hrow ⊢
  clear hW0 ho hb1 hba bW0 bW1
  have hml := (placesL_len L hL).1
  refine wpIn_rangeFunc_ownG rfl hn1 (gf := 27) (lb := #[.pointer (some ⟨w1.heap.size + 1 + 1, 0, none⟩)]) rfl trivial (enters_of Try.func27 (by kernel_rfl) rfl)
    (pl_stops (n - 1) (by omega) w1.heap.size (w1.heap.size + 1) (w1.heap.size + 1 + 1) w.heap.size N cap A L hL hlen hN W0 (by omega) (by omega) (ownLt_of bO (fun b q => by have := hlt1 b q; omega)) bL.cell (by omega) (by omega) (fun w1 i hb => hC w1 i (hB0.trans hb)))
    kp_t (kp_b (by omega) (by omega)) (Below.refl _ _) (fun _ => rfl)
    (fun pre W => ((∃ v, Boxed W w1.heap.size 34 v ∧ W.ownsRow (w.heap.size + 1) 43 1 v NI ((scatN I pre ws (pre : List Int).length).map fun x : Nat => Value.int .u64 x) ∧ v = .slice Ao NI co) ∧ (Boxed W (w1.heap.size + 1) 3 (.int .i64 ((pre : List Int).length : Nat)) ∧ (pre : List Int).length ≤ NW) ∧ Boxed W w.heap.size 34 (.slice AW NW capW)) ∧ Below w.heap.size w W)
    (fun c pre W => (c = .exit 0 ∧ NW ≤ (pre : List Int).length ∧ ∃ v, Boxed W w1.heap.size 34 v ∧ W.ownsRow (w.heap.size + 1) 43 1 v NI ((scatN I pre ws NW).map fun x : Nat => Value.int .u64 x) ∧ v = .slice Ao NI co) ∧ Below w.heap.size w W)
    (OwnFrom.and (OwnFrom.and (Own.from (holdsRow_own (w.heap.size + 1) w1.heap.size 34 43 1 (fun pre : List Int => NI) (fun pre => (scatN I pre ws (pre : List Int).length).map fun x : Nat => Value.int .u64 x) (fun pre v => v = .slice Ao NI co)) _) (OwnFrom.and (Own.from (fun s A B row hs hg hr => ⟨boxed_own (w1.heap.size + 1) 3 (fun pre : List Int => Value.int .i64 (pre.length : Nat)) s A B row hs.1 hg hr, hs.2⟩) _) (Own.from (boxed_own w.heap.size 34 (fun (_ : List Int) => Value.slice AW NW capW)) _))) (ownFrom_below (Nat.le_refl _) (by omega)))
    (fun c => OwnFrom.and (Own.from (fun s A B row hs hg hr => ⟨hs.1, hs.2.1, holdsRow_own (w.heap.size + 1) w1.heap.size 34 43 1 (fun pre : List Int => NI) (fun pre => (scatN I pre ws NW).map fun x : Nat => Value.int .u64 x) (fun pre v => v = .slice Ao NI co) s A B row hs.2.2 hg hr⟩) _) (ownFrom_below (Nat.le_refl _) (by omega)))
    ⟨⟨⟨_, bO, hrow, rfl⟩, ⟨bI, Nat.zero_le _⟩, bW⟩, hB0⟩
    (fun y => { tmps := #[.slice AI NI capI, .slice A N cap, .slice AW NW capW, undef, undef, .pointer (some ⟨w.heap.size, 0, none⟩), .slice none 0 0, .pointer (some ⟨w1.heap.size, 0, none⟩), .pointer (some ⟨w1.heap.size + 1, 0, none⟩), .int .i64 y, .slice AI NI capI, .slice Ao NI co, .slice A N cap, .func (.func 27) #[] #[.pointer (some ⟨w1.heap.size + 1 + 1, 0, none⟩)], .int .i64 y, undef, undef, undef, undef, undef, undef, undef, undef, undef, undef, undef, undef, undef, undef, undef, undef, undef, undef, undef, undef, undef, undef], defers := [] }) ?assign ?body ?done ?stop
  case assign =>
    intro l y W K hK
    gi_wp2
    simpa using hK
  case body =>
    rintro l pre y W ⟨⟨⟨v, hv, hrow, rfl⟩, ⟨bi, hpn⟩, bw⟩, hB⟩ hlt
    have hc := hv.cell
    have hci := bi.cell
    have hfi := bi.frozen
    have hcw := bw.cell
    have hne := hv.not_row (e := 43) (by decide) hrow
    by_cases k0 : pre.length = NW
    · rw [k0] at hci
      gi_wp2
      refine ⟨KeepsFrom.refl _ _, ⟨rfl, by rw [List.length_append]; omega, _, hv, ?_, rfl⟩, hB⟩
      rw [scatN_stop I pre y ws NW k0]; exact hrow
    · have k1 : pre.length < NW := by omega
      have k1' : ((pre.length : Nat) : Int) < (NW : Int) := by omega
      have k1e : ((pre.length : Int) == (NW : Int)) = false := by rw [beq_eq_false_iff_ne]; omega
      by_cases y0 : y < 0
      · have y1 : ¬ (0 ≤ y) := by omega
        have hsn := scatN_snoc I pre y ws
        rw [if_neg (by omega)] at hsn
        replace hsn := Lib.hid hsn
        gi_wp2
        have hbw : Below w.heap.size W (W.setCell ⟨w1.heap.size + 1, 0, none⟩ (.int .i64 ((pre.length : Int) + 1))) := (Below.refl _ _).setCell (by simp; omega) _
        refine ⟨(KeepsOthers.setCell _ _ _).from _, kp_set hbw (by omega) (fun b _ hb => Below.heap_setCell W ⟨w1.heap.size + 1, 0, none⟩ _ b hb) (fun q => hne ((ownAt_iff hv).1 q).symm), ⟨⟨hv.other (by omega) _, ?_⟩, ⟨?_, by simp; omega⟩, bw.other (by omega) _⟩, hB.trans hbw⟩
        · rw [hsn.out]; exact hrow.kept (grownBy_setCell' W (w1.heap.size + 1) _) (.inr (bi.not_row (by decide) hrow).symm)
        · rw [List.length_append]; exact bi.set _
      by_cases y2 : (NI : Int) ≤ y
      · have y1 : 0 ≤ y := by omega
        have hsn := scatN_snoc I pre y ws
        rw [if_neg (by omega)] at hsn
        replace hsn := Lib.hid hsn
        gi_wp2
        have hbw : Below w.heap.size W (W.setCell ⟨w1.heap.size + 1, 0, none⟩ (.int .i64 ((pre.length : Int) + 1))) := (Below.refl _ _).setCell (by simp; omega) _
        refine ⟨(KeepsOthers.setCell _ _ _).from _, kp_set hbw (by omega) (fun b _ hb => Below.heap_setCell W ⟨w1.heap.size + 1, 0, none⟩ _ b hb) (fun q => hne ((ownAt_iff hv).1 q).symm), ⟨⟨hv.other (by omega) _, ?_⟩, ⟨?_, by simp; omega⟩, bw.other (by omega) _⟩, hB.trans hbw⟩
        · rw [hsn.out]; exact hrow.kept (grownBy_setCell' W (w1.heap.size + 1) _) (.inr (bi.not_row (by decide) hrow).symm)
        · rw [List.length_append]; exact bi.set _
      · obtain ⟨i, rfl⟩ := Int.eq_ofNat_of_zero_le (show 0 ≤ y by omega)
        have y1 : (i : Int) < (NI : Int) := by omega
        have y3 : i < NI := by omega
        have hsn := scatN_snoc I pre i ws
        rw [if_pos (by omega)] at hsn
        replace hsn := Lib.hid hsn
        obtain ⟨go, rfl⟩ := hAo (by omega)
        obtain ⟨gw, ow, rfl, hcapw, hgw, _⟩ := hCW w pre.length (Below.refl _ _) k1
        obtain ⟨g2, o2, he, _, hgw2, d0⟩ := hCW W pre.length hB k1
        cases he
        generalize ws.getD pre.length 0 = z at *
        have f0 := hrow.frozenAt i
        have hsl : (scatN I pre ws pre.length).length = NI := by rw [scatN_len, hI]
        obtain ⟨x0, e0⟩ : ∃ x, W.cell? ⟨go, i, none⟩ = some x := ⟨_, by rw [hrow.cellAt i (by omega)]; exact List.getElem?_eq_getElem (by simp; omega)⟩
        have hgo : w.heap.size + 1 ≤ go ∧ go < W.heap.size := World.ownsRow.lt hrow go rfl
        have hgn1 : w1.heap.size ≠ go := fun e => hne (by rw [e]; rfl)
        have hgn2 : w1.heap.size + 1 ≠ go := fun e => bi.not_row (e := 43) (by decide) hrow (by rw [e]; rfl)
        have hgn3 : w.heap.size ≠ go := by omega
        have hgn4 : gw ≠ go := by omega
        obtain ⟨W2, hW2⟩ : ∃ W2, W2 = (W.setCell ⟨go, i, none⟩ (.int .u64 (z : Nat))).drew := ⟨_, rfl⟩
        have hh2 : ∀ b, b ≠ go → W2.heap[b]? = W.heap[b]? := fun b hb => by rw [hW2]; exact Below.heap_setCell W ⟨go, i, none⟩ _ b hb
        have hb2 : Below w.heap.size W W2 := by rw [hW2]; exact ((Below.refl _ _).setCell (by simp; omega) _).drew
        have hk2 : KeepsOthers W W2 := by rw [hW2]; exact (KeepsOthers.setCell _ _ _).trans (KeepsOthers.drew _)
        have hv2 : Boxed W2 w1.heap.size 34 (.slice (some ⟨go, 0, none⟩) NI co) := (hh2 _ hgn1).trans hv
        have bi2 : Boxed W2 (w1.heap.size + 1) 3 (.int .i64 (pre.length : Nat)) := (hh2 _ hgn2).trans bi
        have bw2 : Boxed W2 w.heap.size 34 (.slice (some ⟨gw, ow, none⟩) NW capW) := (hh2 _ hgn3).trans bw
        have d2 : W2.cell? ⟨gw, ow + pre.length, none⟩ = some (.int .u64 (z : Nat)) := (World.cell?_of_block (hh2 gw hgn4)).trans d0
        have hrow2 : W2.ownsRow (w.heap.size + 1) 43 1 (.slice (some ⟨go, 0, none⟩) NI co) NI (((scatN I pre ws pre.length).set i z).map fun x : Nat => Value.int .u64 x) := by
          rw [hW2, List.map_set]; exact (hrow.stored i _).1.drew
        gi_wp2
        refine wpIn_region_held_wr (S := fun W' => W'.cell? ⟨w1.heap.size, 0, none⟩ = some (.slice (some ⟨go, 0, none⟩) NI co) ∧ W'.cell? ⟨w.heap.size, 0, none⟩ = some (.slice (some ⟨gw, ow, none⟩) NW capW) ∧ W'.cell? ⟨w1.heap.size + 1, 0, none⟩ = some (.int .i64 (pre.length : Nat)) ∧ W'.cell? ⟨gw, ow + pre.length, none⟩ = some (.int .u64 (z : Nat))) (by kernel_rfl) (by kernel_rfl) (by rintro ⟨_, _, h⟩; exact h) ?_ (fun hHeld => ?_)
        · exact ⟨hc, hcw, hci, d0⟩
        refine takeL 0 (v := ?_) rfl (by kernel_rfl) (by kernel_rfl) (by kernel_rfl) (fun _ _ _ h => h) (by rfl) (by assumption) ?_ ?_
        rotate_left
        · (intro w hSw; (try dsimp only at hSw); go_split_ands; go_simp <;> with_reducible rfl)
        try simp only [Act.put, List.setIfInBounds_toArray, List.set_cons_zero, List.set_cons_succ]
        refine takeL 1 (v := ?_) rfl (by kernel_rfl) (by kernel_rfl) (by kernel_rfl) (fun _ _ _ h => h) (by rfl) (by assumption) ?_ ?_
        rotate_left
        · (intro w hSw; (try dsimp only at hSw); go_split_ands; go_simp <;> with_reducible rfl)
        try simp only [Act.put, List.setIfInBounds_toArray, List.set_cons_zero, List.set_cons_succ]
        refine takeL 2 (v := ?_) rfl (by kernel_rfl) (by kernel_rfl) (by kernel_rfl) (fun _ _ _ h => h) (by rfl) (by assumption) ?_ ?_
        rotate_left
        · (intro w hSw; (try dsimp only at hSw); go_split_ands; go_simp <;> with_reducible rfl)
        try simp only [Act.put, List.setIfInBounds_toArray, List.set_cons_zero, List.set_cons_succ]
        refine takeL 3 (v := ?_) rfl (by kernel_rfl) (by kernel_rfl) (by kernel_rfl) (fun _ _ _ h => h) (by rfl) (by assumption) ?_ ?_
        rotate_left
        · (intro w hSw; (try dsimp only at hSw); go_split_ands; go_simp <;> with_reducible rfl)
        try simp only [Act.put, List.setIfInBounds_toArray, List.set_cons_zero, List.set_cons_succ]
        refine takeL 4 (v := ?_) rfl (by kernel_rfl) (by kernel_rfl) (by kernel_rfl) (fun _ _ _ h => h) (by rfl) (by assumption) ?_ ?_
        rotate_left
        · (intro w hSw; (try dsimp only at hSw); go_split_ands; go_simp <;> with_reducible rfl)
        try simp only [Act.put, List.setIfInBounds_toArray, List.set_cons_zero, List.set_cons_succ]
        refine takeL 5 (v := ?_) rfl (by kernel_rfl) (by kernel_rfl) (by kernel_rfl) (fun _ _ _ h => h) (by rfl) (by assumption) ?_ ?_
        rotate_left
        · (intro w hSw; (try dsimp only at hSw); go_split_ands; go_simp <;> with_reducible rfl)
        try simp only [Act.put, List.setIfInBounds_toArray, List.set_cons_zero, List.set_cons_succ]
        refine takeL 6 (v := ?_) rfl (by kernel_rfl) (by kernel_rfl) (by kernel_rfl) (fun _ _ _ h => h) (by rfl) (by assumption) ?_ ?_
        rotate_left
        · (intro w hSw; (try dsimp only at hSw); go_split_ands; go_simp <;> with_reducible rfl)
        try simp only [Act.put, List.setIfInBounds_toArray, List.set_cons_zero, List.set_cons_succ]
        refine oneL 7 rfl (by kernel_rfl) (fun K hK => ?_)
        have e1 : W.drew.cell? ⟨go, i, none⟩ = some x0 := e0
        have f1 : W.drew.frozen? ⟨go, i, none⟩ = false := f0
        go_simp
        refine hK.out _ _ ?_ (fun hHeld2 => ?_)
        · rw [← hW2]; exact ⟨hv2.cell, bw2.cell, bi2.cell, d2⟩
        clear hK K
        try simp only [Act.put, List.setIfInBounds_toArray, List.set_cons_zero, List.set_cons_succ]
        refine wpAnyH_done (by kernel_rfl) ?_ _
        rw [← hW2]
        clear hHeld hHeld2 hc hci hfi hcw e0 f0 d0
        have hci2 := bi2.cell
        have hfi2 := bi2.frozen
        clear hW2
        gi_wp2
        have hbw : Below w.heap.size W2 (W2.setCell ⟨w1.heap.size + 1, 0, none⟩ (.int .i64 ((pre.length : Int) + 1))) := (Below.refl _ _).setCell (by simp; omega) _
        refine ⟨(hk2.trans (KeepsOthers.setCell _ _ _)).from _, kp_set (hb2.trans hbw) (by omega) (fun b hbo hb => (Below.heap_setCell W2 ⟨w1.heap.size + 1, 0, none⟩ _ b hb).trans (hh2 b (fun e => hbo ((ownAt_iff hv).2 (by rw [e]; rfl))))) (fun q => hne ((ownAt_iff hv).1 q).symm), ⟨⟨_, hv2.other (by omega) _, ?_, rfl⟩, ⟨?_, by simp; omega⟩, bw2.other (by omega) _⟩, (hB.trans hb2).trans hbw⟩
        · rw [hsn.out]; exact hrow2.kept (grownBy_setCell' W2 (w1.heap.size + 1) _) (.inr (bi2.not_row (by decide) hrow2).symm)
        · rw [List.length_append]; exact bi2.set _
  case done =>
    rintro D ys W hD rfl ⟨⟨⟨v, hv, hrow, rfl⟩, ⟨bi, hpn⟩, bw⟩, hB⟩ hK
    have hc := hv.cell
    gi_wp2
    refine ⟨by simp, .inl ⟨_, _, rfl, run_takeDeferred hK, ?_⟩⟩
    refine ⟨_, results_tmp rfl _ _ _, _, rfl, ?_, hB.trans (belowK_b (w := w) (Nat.le_refl _) W D _ _ (by omega) hK rfl rfl)⟩
    have h := ownsRow_putObj hrow (.deferred none) hK rfl
    rw [Nat.min_eq_left hpn]
    refine OwnU.mono ?_ (Nat.le_succ _)
    unfold OwnU
    rw [scatN_len, hI]
    exact h
  case stop =>
    rintro D c pre W hD hpre ⟨⟨rfl, hpn, v, hv, hrow, rfl⟩, hB⟩ hK
    obtain ⟨q, hq⟩ := hpre
    have hc := hv.cell
    gi_wp2
    refine ⟨by simp, .inl ⟨_, _, rfl, run_takeDeferred hK, ?_⟩⟩
    refine ⟨_, results_tmp rfl _ _ _, _, rfl, ?_, hB.trans (belowK_b (w := w) (Nat.le_refl _) W D _ _ (by omega) hK rfl rfl)⟩
    have h := ownsRow_putObj hrow (.deferred none) hK rfl
    have hmin : min (placesL L).length NW = NW := by rw [← hq, List.length_append]; omega
    rw [hmin, ← hq, scatN_pre I pre q ws NW hpn]
    refine OwnU.mono ?_ (Nat.le_succ _)
    unfold OwnU
    rw [scatN_len, hI]
    exact h
end Go.Proofs.Ytddfhgdejlkdgaa
