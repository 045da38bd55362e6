/-
  The document's table of an index.
  The document's rows of an index.
-/
import Derived.Test.YtnjifmecaeagaaaDoorQI
import Derived.Test.YtnjifmecaeagaaaDoorRegQ
section
set_option linter.unusedVariables false
set_option linter.unusedSimpArgs false
namespace Go.Proofs.YtnjifmecaeagaaaDoor
open Go.Lib Go.RowKit Go.ChangeShapes Go.WideShapes Go.Deep
/-- which of the first k blocks are live, as a number -/
def bitsD (s : St) : Nat → Nat
  | 0 => 0
  | k + 1 => bitsD s k + if blkD s k = 1 then 2 ^ k else 0
theorem bitsD_eq (s : St) (k1 : kN s.1 = 1) : ∀ k, bitsD s k = s.2.1 % 2 ^ k
  | 0 => by rw [Nat.pow_zero, Nat.mod_one]; rfl
  | k + 1 => by
    rw [bitsD, bitsD_eq s k1 k, Nat.mod_pow_succ]
    have hm : s.2.1 / 2 ^ k % 2 < 2 := Nat.mod_lt _ (by omega)
    cases hb : s.2.1.testBit k with
    | true =>
      rw [if_pos ((blkD_one k1 k).2 hb)]
      rw [Nat.testBit_eq_decide_div_mod_eq] at hb
      rw [of_decide_eq_true hb]; omega
    | false =>
      rw [if_neg (fun q => by rw [(blkD_one k1 k).1 q] at hb; cases hb)]
      rw [Nat.testBit_eq_decide_div_mod_eq] at hb
      have := of_decide_eq_false hb
      rw [show s.2.1 / 2 ^ k % 2 = 0 by omega]; omega
theorem bitsD_no (s : St) (k1 : ¬ kN s.1 = 1) : ∀ k, bitsD s k = 0
  | 0 => rfl
  | k + 1 => by
    rw [bitsD, bitsD_no s k1 k, if_neg]
    unfold blkD; rw [if_neg k1]; omega
theorem bitsD_all {s : St} (h : StOk s) : bitsD s 8 = bW s.1 s.2.1 := by
  unfold bW
  by_cases k1 : kN s.1 = 1
  · rw [if_pos k1, bitsD_eq s k1]
    have := (h.run k1).1
    have hp := pow_mn (cN s.1)
    exact Nat.mod_eq_of_lt (by omega)
  · rw [if_neg k1, bitsD_no s k1]
    have := okN_t h.ok
    unfold RightN at this
    omega
theorem bitsD_bd {s : St} (h : StOk s) (k : Nat) (hk : k ≤ 8) : bitsD s k < 256 := by
  by_cases k1 : kN s.1 = 1
  · rw [bitsD_eq s k1]
    have h1 := Nat.mod_lt s.2.1 (show 0 < 2 ^ k from Nat.two_pow_pos k)
    have h2 : 2 ^ k ≤ 2 ^ 8 := Nat.pow_le_pow_right (by omega) hk
    omega
  · rw [bitsD_no s k1]; omega
/-- does one of the first k chunks that are taken cover chunk i -/
def overD (S : List St) (i k : Nat) : Bool := (List.range k).any fun m => tknD (gS S m) && decide (i < m + mN (gS S m).1)
theorem overD_succ (S : List St) (i k : Nat) : overD S i (k + 1) = (overD S i k || (tknD (gS S k) && decide (i < k + mN (gS S k).1))) := by
  unfold overD; rw [List.range_succ, List.any_append]; simp
theorem overD_all (S : List St) (i : Nat) : overD S i (i + 1) = goneB S i := by
  unfold overD goneB
  congr 1
  funext k
  unfold tknD
  generalize gS S k = s
  by_cases h : kN s.1 = 2 <;> by_cases h2 : s.2.2 = 0 <;> by_cases h3 : i < k + mN s.1 <;> simp [h, h2, h3]
theorem tab_step (S : List St) {i : Nat} (hi : i < S.length) : (tableS S).take i ++ [if goneB S i then 0 else wordS (gS S i)] = (tableS S).take (i + 1) := by
  rw [← table_at S hi]
  have : i < (tableS S).length := by rw [table_len]; exact hi
  rw [List.take_succ_eq_append_getElem this, List.getD_eq_getElem?_getD, List.getElem?_eq_getElem this]
  rfl
/-- a chunk that lies in a box -/
structure ChAt (w : World) (D : Nat) (k c l m b : Int) : Prop where
  blk : w.heap[D]? = some (.cells #[.int .i64 k, .int .i64 c, .int .i64 l, .int .i64 m, .int .u64 b] 29 (0, 0))
theorem ChAt.new (w : World) (k c l m b : Int) : ChAt (w.alloc (.cells #[.int .i64 k, .int .i64 c, .int .i64 l, .int .i64 m, .int .u64 b] 29)) w.heap.size k c l m b := ⟨World.alloc_heap_new w _⟩
theorem ChAt.lt {w : World} {D : Nat} {k c l m b : Int} (h : ChAt w D k c l m b) : D < w.heap.size := (Array.getElem?_eq_some_iff.1 h.blk).1
theorem ChAt.keep {w w1 : World} {D : Nat} {k c l m b : Int} (h : ChAt w D k c l m b) (hb : Below w.heap.size w w1) : ChAt w1 D k c l m b := ⟨(hb.block D h.lt).trans h.blk⟩
theorem ChAt.cells {w : World} {D : Nat} {k c l m b : Int} (h : ChAt w D k c l m b) : w.cell? ⟨D, 0, none⟩ = some (.int .i64 k) ∧ w.cell? ⟨D, 1, none⟩ = some (.int .i64 c) ∧ w.cell? ⟨D, 2, none⟩ = some (.int .i64 l) ∧ w.cell? ⟨D, 3, none⟩ = some (.int .i64 m) ∧ w.cell? ⟨D, 4, none⟩ = some (.int .u64 b) :=
  ⟨(row_cell h.blk 0).1, (row_cell h.blk 1).1, (row_cell h.blk 2).1, (row_cell h.blk 3).1, (row_cell h.blk 4).1⟩
theorem ChAt.fz {w : World} {D : Nat} {k c l m b : Int} (h : ChAt w D k c l m b) (j : Nat) : w.frozen? ⟨D, j, none⟩ = false := (row_cell h.blk j).2
theorem ChAt.setB {w : World} {D : Nat} {k c l m b : Int} (h : ChAt w D k c l m b) (b' : Int) : ChAt (w.setCell ⟨D, 4, none⟩ (.int .u64 b')) D k c l m b' ∧ Chg (fun k => k = D) w (w.setCell ⟨D, 4, none⟩ (.int .u64 b')) :=
  ⟨⟨heap_setCell_same w D 4 _ _ (.int .u64 b') h.blk⟩, Chg.setCell (S := fun k => k = D) w D 4 _ rfl⟩
theorem ChAt.there {w : World} {D : Nat} {k c l m b : Int} (h : ChAt w D k c l m b) : w.there D 0 5 := fun j hj => by
  rw [Nat.zero_add]
  refine ⟨?_, (row_cell h.blk j).2⟩
  rw [(row_cell h.blk j).1]
  have h5 : j = 0 ∨ j = 1 ∨ j = 2 ∨ j = 3 ∨ j = 4 := by omega
  rcases h5 with rfl | rfl | rfl | rfl | rfl <;> rfl
theorem ChAt.put {w : World} {D : Nat} {k c l m b : Int} (h : ChAt w D k c l m b) (k' c' l' m' b' : Int) : ChAt (w.setCells D 0 [.int .i64 k', .int .i64 c', .int .i64 l', .int .i64 m', .int .u64 b']) D k' c' l' m' b' ∧ Chg (fun k => k = D) w (w.setCells D 0 [.int .i64 k', .int .i64 c', .int .i64 l', .int .i64 m', .int .u64 b']) := by
  have b1 := heap_setCell_same w D 0 _ _ (.int .i64 k') h.blk
  have b2 := heap_setCell_same _ D 1 _ _ (.int .i64 c') b1
  have b3 := heap_setCell_same _ D 2 _ _ (.int .i64 l') b2
  have b4 := heap_setCell_same _ D 3 _ _ (.int .i64 m') b3
  have b5 := heap_setCell_same _ D 4 _ _ (.int .u64 b') b4
  have k := fun (v : Value) (a : World) (o : Nat) => Chg.setCell (S := fun k => k = D) a D o v rfl
  exact ⟨⟨b5⟩, ((((k _ _ _).trans (k _ _ _) (fun j q => .inl q)).trans (k _ _ _) (fun j q => .inl q)).trans (k _ _ _) (fun j q => .inl q)).trans (k _ _ _) (fun j q => .inl q)⟩
theorem infoC5 : (Tryd.prog.info? 29).map (·.size) = some 5 := by kernel_rfl
theorem one5c (a b c d e : Int) : (#[.int .i64 a, .int .i64 b, .int .i64 c, .int .i64 d, .int .u64 e] : Array Value).all (·.oneCell') = true :=
  all_oneCell_toArray (cs := [.int .i64 a, .int .i64 b, .int .i64 c, .int .i64 d, .int .u64 e]) (fun u hu => by
    simp only [List.mem_cons, List.not_mem_nil, or_false] at hu
    rcases hu with rfl | rfl | rfl | rfl | rfl <;> rfl)
theorem OwnU.chg {F : Nat → Prop} {w w1 : World} {base : Nat} {v : Value} {l : List Nat} (h : OwnU w base v l) (hc : Chg F w w1) (hn : ∀ k, v.ownBlock = some k → ¬ F k) : OwnU w1 base v l := by
  refine ⟨h.1, ?_⟩
  rcases h.2 with h2 | ⟨g, cap, cur, hv, hbg, hg, h1, h2, h3, h4⟩
  · exact .inl h2
  · exact .inr ⟨g, cap, cur, hv, hbg, by rw [hc.block g (Array.getElem?_eq_some_iff.1 hg).1 (hn g (by rw [hv]; rfl))]; exact hg, h1, h2, h3, h4⟩
theorem OwnU.nil (w : World) (base : Nat) : OwnU w base (.slice none 0 0) [] := World.ownsRow_nil _ _ _ _
theorem OwnU.slD {w : World} {base n : Nat} {v : Value} {l : List Nat} (h : OwnU w base v l) (hn : l.length = n) : ∃ A c, v = .slice A n c := by
  rcases h.2 with ⟨q, h2⟩ | ⟨g', cap', cur, q, _⟩
  · exact ⟨none, 0, by rw [q, ← hn, h2]⟩
  · exact ⟨_, _, by rw [q, hn]⟩
/-- a word is laid behind -/
theorem appD1 {w : World} {base y : Nat} {v : Value} {l : List Nat} (h : OwnU w base v l) (hb : base ≤ w.heap.size) (hl : l.length ≤ 100000) :
    ∃ v' w', (Builtin.append_ #[22, 22] 22 #[v, .slice (some ⟨w.heap.size, 0, none⟩) 1 1]).run Tryd.prog (w.alloc (.cells #[.int .u64 (y : Nat)] (27 : Nat))) = .ok v' w' ∧ OwnU w' base v' (l ++ [y]) ∧ Below base w w' := by
  have hA := (Below.refl base w).alloc hb (.cells #[.int .u64 (y : Nat)] (27 : Nat))
  have h2 := h.keep ((Below.refl w.heap.size w).alloc (Nat.le_refl _) (.cells #[.int .u64 (y : Nat)] (27 : Nat)))
  obtain ⟨v', w', hrun, ho, hg, _⟩ := appU (y := y) (g := w.heap.size) h2 (by simp [go_sem]) (by rw [World.size_alloc]; omega) (by omega)
  refine ⟨v', w', hrun, ?_, hA.trans (grown_below hg (by rw [World.size_alloc]; omega) (fun k hk => (World.ownsRow.lt h k hk).1))⟩
  unfold OwnU
  rw [List.length_append, List.map_append]
  exact ho
set_option maxRecDepth 10000 in
theorem refEncS_any (x lv tk : Nat) (h : StOk (x, lv, tk)) (w : World) (hw : Lw w) :
    Calls Tryd.prog 60 #[.agg #[.int .i64 (kN x : Nat), .int .i64 (cN x : Nat), .int .i64 (lnN x : Nat), .int .i64 (mN x : Nat), .int .u64 (bW x lv : Nat)]] w fun e w' => e = .returned (.tuple #[.int .u64 (wordS (x, lv, tk) : Nat), .int .i64 0]) ∧ Below w.heap.size w w' := by
  obtain ⟨p1, p2, p3, p4, p5⟩ := parts_word h
  have hok := word_ok h
  have hwo := word_of _ hok
  rw [p1, p2, p3, p4, p5] at hwo
  have hr := (rightN_B _).1 (okN_t hok)
  rw [p1, p2, p3, p4, p5] at hr
  have he := refEnc_yes (kN x : Nat) (cN x : Nat) (lnN x : Nat) (mN x : Nat) (bW x lv : Nat) w hw (by omega) (right_yes hr.2)
  rw [hwo] at he
  exact he
theorem refEncZ_any (w : World) (hw : Lw w) :
    Calls Tryd.prog 60 #[.agg #[.int .i64 0, .int .i64 0, .int .i64 0, .int .i64 0, .int .u64 0]] w fun e w' => e = .returned (.tuple #[.int .u64 0, .int .i64 0]) ∧ Below w.heap.size w w' :=
  refEnc_yes 0 0 0 0 0 w hw (by omega) (by decide)
set_option maxRecDepth 10000 in
set_option maxHeartbeats 1000000 in
theorem dtable_any {w : World} {base B : Nat} {v : Value} {S : List St} (hI : YAt w base B v S) (hS : SOk S) (hl : S.length ≤ 10000) (hw : Lw w) :
    Calls Tryd.prog 53 #[.pointer (some ⟨B, 0, none⟩)] w fun e w' => TabP w S e w' ∧ Below w.heap.size w w' := by
  obtain ⟨nn, hnn⟩ : ∃ n, S.length = n := ⟨_, rfl⟩
  have hn9 : nn ≤ 10000 := by omega
  have hX := Lib.hid (fun w1 (hb : Below w.heap.size w w1) => (hI.keep hb).box.cell)
  have hW := Lib.hid (fun w1 (hb : Below w.heap.size w w1) => hw.keep hb)
  have hSe := Lib.hid (fun j (hj : j < nn) => hS.each j (by omega))
  have hTs := Lib.hid (fun j (hj : j < nn) => tab_step S (i := j) (by omega))
  have hTl := Lib.hid (fun j (hj : j ≤ nn) => show ((tableS S).take j).length = j from by rw [List.length_take, table_len]; omega)
  have hTa := Lib.hid (show (tableS S).take nn = tableS S from by rw [List.take_of_length_le (by rw [table_len]; omega)])
  have hOs := Lib.hid (fun i k => overD_succ S i k)
  have hOa := Lib.hid (fun i => overD_all S i)
  have hD := Lib.hid (fun w1 (hb : Below w.heap.size w w1) (j : Nat) (hj : j < nn) => show ∃ g cap, v = .slice (some ⟨g, 0, none⟩) nn cap ∧ g < w.heap.size ∧ DCells w1 g j (gS S j).1 (gS S j).2.1 (gS S j).2.2 from by
    obtain ⟨g, cap, hv, _, hg, _⟩ := hI.row.form (by omega)
    rw [hnn] at hv
    subst hv
    exact ⟨g, cap, rfl, hg, (hI.keep hb).at hnn hj rfl⟩)
  have hBi := Lib.hid (fun (k : Nat) (w : World) (hk : k ≤ 7) => refBit_yes k w hk)
  have hYk := Lib.hid (fun w1 (hb : Below w.heap.size w w1) => hI.keep hb)
  obtain ⟨A, cap, rfl⟩ := hI.form hnn
  unfold TabP
  replace hnn := Lib.hid hnn
  clear hI hS hl hw
  go_enter Tryd.func53, Tryd.ntmps53
  go_wp2_with fail
  go_loopw [4, 3] (fun i vr wr => ∃ (j : Nat), j ≤ nn ∧ i = .int .i64 j ∧ OwnU wr w.heap.size vr ((tableS S).take j) ∧ Below w.heap.size w wr) (fun i _ _ => nn + 1 - (intOf i).toNat)
  case atStart => exact ⟨0, Nat.zero_le _, rfl, OwnU.nil _ _, Below.refl _ _⟩
  case round =>
    obtain ⟨j, hj, rfl, hown, hB⟩ := hrel
    have x0 := hX.out wr hB
    by_cases hlt : j < nn
    · have hlt' : (j : Int) < (nn : Int) := by omega
      obtain ⟨g, cap2, hve, hg, c0, c1, c2, c3, c4, -⟩ := hD.out wr hB j hlt
      simp only [Value.slice.injEq, true_and] at hve
      obtain ⟨rfl, rfl⟩ := hve
      have hsj := hSe.out j hlt
      have hst := hTs.out j hlt
      have hOe := hOa.out j
      obtain ⟨Av, cv, rfl⟩ := hown.slD (hTl.out j hj)
      obtain ⟨⟨x, lv, tk⟩, hs⟩ : ∃ s, gS S j = s := ⟨_, rfl⟩
      rw [hs] at hsj hst c0 c1 c2 c3
      simp only [] at c0 c1 c2 c3
      have hp := ChAt.new wr (kN x : Nat) (cN x : Nat) (lnN x : Nat) (mN x : Nat) 0
      obtain ⟨D, hDe⟩ : ∃ D, wr.heap.size = D := ⟨_, rfl⟩
      have hne : ∀ k, Value.ownBlock (.slice Av j cv) = some k → ¬ k = D := fun k q e => by have := (World.ownsRow.lt hown k q).2; omega
      have hA3 : Below wr.heap.size wr (wr.alloc (.cells #[.int .i64 (kN x : Nat), .int .i64 (cN x : Nat), .int .i64 (lnN x : Nat), .int .i64 (mN x : Nat), .int .u64 0] 29)) := (Below.refl _ _).alloc (Nat.le_refl _) _
      have hown3 := hown.keep hA3
      have hB3 := hB.trans (hA3.mono hB.size)
      have hDw : w.heap.size ≤ D := by rw [← hDe]; exact hB.size
      have hfin := Lib.hid (show bitsD (x, lv, tk) 8 = bW x lv from bitsD_all hsj)
      have hbd := Lib.hid (fun k hk => bitsD_bd hsj k hk)
      have hEnc := Lib.hid (fun w1 (h1 : Below w.heap.size w w1) => refEncS_any x lv tk hsj w1 (hW.out w1 h1))
      replace hst := Lib.hid hst
      replace hOe := Lib.hid hOe
      replace hsj := Lib.hid hsj
      replace hs := Lib.hid hs
      rw [hDe] at hp
      replace hne := Lib.hid hne
      clear hown hB hA3
      go_wp2_with fail
      generalize wr.alloc (.cells #[.int .i64 (kN x : Nat), .int .i64 (cN x : Nat), .int .i64 (lnN x : Nat), .int .i64 (mN x : Nat), .int .u64 0] 29) = W1 at *
      have hBk := Lib.hid (fun w1 (hb : Below w.heap.size w w1) (k : Nat) (hk : k < 8) => show w1.cell? ⟨g, j * 14 + 5 + k, none⟩ = some (.int .i64 (blkD (x, lv, tk) k : Nat)) from by
        have h := (OwnE.cell dS_len (hYk.out w1 hb).row hnn.out (i := j) (j := 5 + k) hlt (by omega)).1
        rw [show S.getD j default = (x, lv, tk) from hs.out, dS_blk _ k hk] at h
        rw [Nat.add_assoc]; exact h)
      clear x0 c0 c1 c2 c3 c4
      go_loopw [6] (fun u wr => ∃ (k : Nat), k ≤ 8 ∧ u = .int .i64 k ∧ ChAt wr D (kN x : Nat) (cN x : Nat) (lnN x : Nat) (mN x : Nat) (bitsD (x, lv, tk) k : Nat) ∧ Chg (fun k => k = D) W1 wr) (fun u _ => 9 - (intOf u).toNat)
      case atStart => exact ⟨0, by omega, rfl, hp, Chg.refl _ _⟩
      case round =>
        obtain ⟨k, hk, rfl, hpk, hCk⟩ := hrel
        clear hp
        have hBr := hB3.trans (hCk.below (fun k q => by omega) hB3.size)
        have x0 := hX.out wr hBr
        by_cases hk8 : k < 8
        · have hk8' : (k : Int) < 8 := by omega
          have cb := hBk.out wr hBr k hk8
          have hbk := hbd.out k (by omega)
          by_cases hb1 : blkD (x, lv, tk) k = 1
          · have q1 : ((blkD (x, lv, tk) k : Nat) : Int) = 1 := by omega
            rw [q1] at cb
            obtain ⟨d0, d1, d2, d3, d4⟩ := hpk.cells
            have hBit := hBi.out k wr.drew (by omega)
            obtain ⟨V, hV⟩ : ∃ V, 2 ^ k = V := ⟨_, rfl⟩
            have hV8 : V ≤ 128 := by rw [← hV]; exact Nat.pow_le_pow_right (n := 2) (by omega) (show k ≤ 7 by omega)
            have hq : 16777216 * pwI k / 16777216 = pwI k := by omega
            have hVp : pwI k = (V : Int) := by unfold pwI; rw [hV]
            have hb2 : ((bitsD (x, lv, tk) (k + 1) : Nat) : Int) = (bitsD (x, lv, tk) k : Nat) + pwI k := by rw [bitsD, if_pos hb1, hVp, ← hV]; push_cast; rfl
            generalize bitsD (x, lv, tk) k = b0 at *
            have r3 : IntKind.u64.wrap ((b0 : Int) + pwI k) = (b0 : Int) + pwI k := by rw [hVp, IntKind.wrap_u64]; omega
            have r4 : IntKind.u64.wrap (pwI k) = pwI k := by rw [hVp, IntKind.wrap_u64]; omega
            obtain ⟨hp2, hC2⟩ := ChAt.setB (hpk.keep ((Below.refl _ _).drew)) ((b0 : Int) + pwI k)
            replace hV := Lib.hid hV
            replace hVp := Lib.hid hVp
            have f4 := hpk.fz 4
            have hC3 : Chg (fun k => k = D) W1 (wr.drew.setCell ⟨D, 4, none⟩ (.int .u64 ((b0 : Int) + pwI k))) := (hCk.trans (Chg.of_below (fun k => k = D) ((Below.refl wr.heap.size wr).drew)) (fun j q => .inl q)).trans hC2 (fun j q => .inl q)
            replace hV := Lib.hid hV
            go_wp2_with fail
            refine wp_region_tail (S := (fun w' => w' = wr.drew)) (n := 7) (by kernel_rfl) ?_ (fun hHeld hInv => ?_) (by decide)
            · (try dsimp only)
              all_goals rfl
            refine takeUS 0 hInv ?_; clear hInv; intro hInv
            refine takeUS 1 hInv ?_; clear hInv; intro hInv
            refine takeUS 2 hInv ?_; clear hInv; intro hInv
            refine oneS 3 hInv (by decide) rfl (by kernel_rfl) (fun K hK => ?_)
            go_simp
            (refine hBit.mono ?_; rintro e w9 ⟨rfl, rfl⟩)
            refine hK.out _ _ ?_ (fun hHeld2 hInv2 => ?_)
            · (try dsimp only)
              all_goals rfl
            clear hK K hHeld hInv
            have hHeld := hHeld2
            have hInv := hInv2
            clear hHeld2 hInv2
            try simp only [Act.put, List.setIfInBounds_toArray, List.set_cons_zero, List.set_cons_succ] at hInv ⊢
            refine takeUS 4 hInv ?_; clear hInv; intro hInv
            refine takeUS 5 hInv ?_; clear hInv; intro hInv
            refine takeUS 6 hInv ?_; clear hInv; intro hInv
            refine lastS 7 rfl (by decide) (by kernel_rfl) (fun K hK => ?_)
            go_simp
            refine hK.out _ _ ?_
            clear hK K
            refine wpAnyS_done (by kernel_rfl) ?_ _
            clear hHeld hInv
            go_wp2_with fail
            go_roundw
            case rel => exact ⟨k + 1, by omega, by go_num, by rw [hb2]; exact hp2, hC3⟩
            case measure => first | (simp [intOf]; done) | (simp [intOf]; omega)
          · have q1 : ¬ ((blkD (x, lv, tk) k : Nat) : Int) = 1 := by omega
            have hb2 : bitsD (x, lv, tk) (k + 1) = bitsD (x, lv, tk) k := by rw [bitsD, if_neg hb1]; rfl
            generalize ((blkD (x, lv, tk) k : Nat) : Int) = bb at *
            go_wp2_with fail
            go_roundw
            case rel => exact ⟨k + 1, by omega, by go_num, by rw [hb2]; exact hpk, hCk⟩
            case measure => first | (simp [intOf]; done) | (simp [intOf]; omega)
        · have hke : k = 8 := by omega
          rw [show bitsD (x, lv, tk) k = bW x lv from by rw [hke]; exact hfin.out] at hpk
          have hk8' : ¬ (k : Int) < 8 := by omega
          replace hke := Lib.hid hke
          clear x0
          go_wp2_with fail
          go_loopw [7] (fun u wr => ∃ (m : Nat), m ≤ j + 1 ∧ u = .int .i64 m ∧ (if overD S j m then ChAt wr D 0 0 0 0 0 else ChAt wr D (kN x : Nat) (cN x : Nat) (lnN x : Nat) (mN x : Nat) (bW x lv : Nat)) ∧ Chg (fun k => k = D) W1 wr) (fun u _ => j + 2 - (intOf u).toNat)
          case atStart => exact ⟨0, by omega, rfl, hpk, hCk⟩
          case round =>
            obtain ⟨m, hm, rfl, hpm, hCm⟩ := hrel
            clear hpk hCk hBr
            have hBr := hB3.trans (hCm.below (fun k q => by omega) hB3.size)
            have x0 := hX.out wr hBr
            by_cases hmj : m ≤ j
            · have hmj' : (m : Int) ≤ (j : Int) := by omega
              have hmn : (m : Int) < (nn : Int) := by omega
              have hst2 := hOs.out j m
              obtain ⟨⟨y, yl, yt⟩, hy⟩ : ∃ s, gS S m = s := ⟨_, rfl⟩
              obtain ⟨g2, cap3, hve2, hg2, _, _, _, e3, _, _, _, _, _, _, _, _, _, e13⟩ := hD.out wr hBr m (by omega)
              simp only [Value.slice.injEq, true_and, Option.some.injEq, Addr.mk.injEq] at hve2
              obtain ⟨⟨rfl, -⟩, rfl⟩ := hve2
              rw [hy] at hst2 e3 e13
              simp only [] at hst2 e3 e13
              replace hy := Lib.hid hy
              obtain ⟨tb, htb⟩ : ∃ b, tknD (y, yl, yt) = b := ⟨_, rfl⟩
              rw [htb] at hst2 e13
              have hyb := (parts_bd y).2.2.2.1
              replace htb := Lib.hid htb
              generalize mN y = my at *
              cases tb with
              | false =>
                have hst3 : overD S j (m + 1) = overD S j m := by rw [hst2]; simp
                go_wp2_with fail
                go_roundw
                case rel => exact ⟨m + 1, by omega, by go_num, by rw [hst3]; exact hpm, hCm⟩
                case measure => first | (simp [intOf]; done) | (simp [intOf]; omega)
              | true =>
                by_cases hc : j < m + my
                · have hc' : (j : Int) < (m : Int) + (my : Int) := by omega
                  have hst3 : overD S j (m + 1) = true := by rw [hst2, decide_eq_true hc]; simp
                  have hpx : ∃ a b c d e, ChAt wr D a b c d e := by
                    split at hpm
                    · exact ⟨_, _, _, _, _, hpm⟩
                    · exact ⟨_, _, _, _, _, hpm⟩
                  obtain ⟨a5, b5, d5, e5, f5, hpx⟩ := hpx
                  have hTh := Lib.hid hpx.there
                  obtain ⟨hp2, hC2⟩ := hpx.put 0 0 0 0 0
                  obtain ⟨W, hW⟩ : ∃ W, wr.setCells D 0 [.int .i64 0, .int .i64 0, .int .i64 0, .int .i64 0, .int .u64 0] = W := ⟨_, rfl⟩
                  rw [hW] at hp2 hC2
                  have hC3 := hCm.trans hC2 (fun j q => .inl q)
                  replace hW := Lib.hid hW
                  clear hpm hCm hC2 hpx
                  go_wp2_with (refine wpList_store_mid rfl _ _ _ rfl D 0 #[.int .i64 0, .int .i64 0, .int .i64 0, .int .i64 0, .int .u64 0] rfl rfl hTh.out infoC5 (one5c _ _ _ _ _) ?_; rw [show wr.setCells D 0 (#[.int .i64 0, .int .i64 0, .int .i64 0, .int .i64 0, .int .u64 0] : Array Value).toList = W from hW.out])
                  go_roundw
                  case rel => exact ⟨m + 1, by omega, by go_num, by rw [hst3]; exact hp2, hC3⟩
                  case measure => first | (simp [intOf]; done) | (simp [intOf]; omega)
                · have hc' : ¬ (j : Int) < (m : Int) + (my : Int) := by omega
                  have hst3 : overD S j (m + 1) = overD S j m := by rw [hst2, decide_eq_false hc]; simp
                  go_wp2_with fail
                  go_roundw
                  case rel => exact ⟨m + 1, by omega, by go_num, by rw [hst3]; exact hpm, hCm⟩
                  case measure => first | (simp [intOf]; done) | (simp [intOf]; omega)
            · obtain rfl : m = j + 1 := by omega
              have hmj' : ¬ ((j + 1 : Nat) : Int) ≤ (j : Int) := by omega
              rw [hOe.out] at hpm
              have hst2 := hst.out
              have hEn2 : ∃ a b c d e y, ChAt wr D a b c d e ∧ y = (if goneB S j then 0 else wordS (x, lv, tk)) ∧ ∀ w1, Below w.heap.size w w1 → Calls Tryd.prog 60 #[.agg #[.int .i64 a, .int .i64 b, .int .i64 c, .int .i64 d, .int .u64 e]] w1 fun e w' => e = .returned (.tuple #[.int .u64 (y : Nat), .int .i64 0]) ∧ Below w1.heap.size w1 w' := by
                cases hg : goneB S j with
                | true => rw [hg] at hpm; exact ⟨_, _, _, _, _, 0, hpm, rfl, fun w1 h => refEncZ_any w1 (hW.out w1 h)⟩
                | false => rw [hg] at hpm; exact ⟨_, _, _, _, _, _, hpm, rfl, fun w1 h => hEnc.out w1 h⟩
              obtain ⟨a5, b5, d5, e5, f5, y, hpx, hy, hEn3⟩ := hEn2
              rw [← hy] at hst2
              have hEn4 := hEn3 wr hBr
              obtain ⟨d0, d1, d2, d3, d4⟩ := hpx.cells
              have hownr := hown3.chg hCm (fun k q => hne.out k q)
              replace hst2 := Lib.hid hst2
              replace hy := Lib.hid hy
              clear hpm hCm hEn3 hpx hown3
              go_wp2_with fail
              refine hEn4.mono ?_
              rintro e w5 ⟨rfl, hb⟩
              have hB5 := hBr.trans (hb.mono hBr.size)
              have hown5 := hownr.keep hb
              obtain ⟨v', w6, hrun, ho, hb6⟩ := appD1 (y := y) hown5 hB5.size (by rw [hTl.out j (by omega)]; omega)
              rw [hst2.out] at ho
              have hB6 := hB5.trans hb6
              clear hEn4 hb hownr hown5 hb6
              go_wp2_with (at_builtin; refine wpList_append_run rfl _ _ 22 rfl _ _ _ rfl rfl hrun ?_)
              go_roundw
              case rel => exact ⟨j + 1, by omega, by go_num, ho, hB6⟩
              case measure => first | (simp [intOf]; done) | (simp [intOf]; omega)
    · obtain rfl : j = nn := by omega
      rw [hTa.out] at hown
      go_wp2_with fail
      go_ret
      exact ⟨⟨_, rfl, hown⟩, hB⟩
end Go.Proofs.YtnjifmecaeagaaaDoor
end
section
set_option linter.unusedVariables false
set_option linter.unusedSimpArgs false
namespace Go.Proofs.YtnjifmecaeagaaaDoor
open Go.Lib Go.RowKit Go.ChangeShapes Go.WideShapes Go.Deep
/-- behind a chunk that can be had the last row ends -/
theorem rowsL_ends {f : Nat → Bool} {k : Nat} (h : f k = true) : ∃ q a m, (rowsL f (k + 1)).length = q + 1 ∧ (rowsL f (k + 1)).getD q default = (a, m) ∧ a + m = k + 1 := by
  cases hl : (rowsL f k).length with
  | zero =>
    refine ⟨0, k, 1, ?_, ?_, rfl⟩
    · rw [rowsL_first h hl, List.length_append, hl]; rfl
    · rw [rowsL_first h hl, List.length_eq_zero_iff.1 hl]; rfl
  | succ q =>
    obtain ⟨⟨a, m⟩, hx⟩ : ∃ s, (rowsL f k).getD q default = s := ⟨_, rfl⟩
    by_cases he : a + m = k
    · refine ⟨q, a, m + 1, ?_, ?_, by omega⟩
      · rw [rowsL_more h hl hx he, List.length_set, hl]
      · rw [rowsL_more h hl hx he, getD_set, if_pos ⟨rfl, by omega⟩]
    · refine ⟨q + 1, k, 1, ?_, ?_, rfl⟩
      · rw [rowsL_next h hl hx he, List.length_append, hl]; rfl
      · rw [rowsL_next h hl hx he, getD_app_last _ _ _ _ (by omega), if_pos hl.symm]
theorem rowsL_new {f : Nat → Bool} {k : Nat} (h : f k = true) (h0 : k = 0 ∨ f (k - 1) = false) : rowsL f (k + 1) = rowsL f k ++ [(k, 1)] := by
  rcases h0 with rfl | h0
  · exact rowsL_first h rfl
  · cases hl : (rowsL f k).length with
    | zero => exact rowsL_first h hl
    | succ q =>
      obtain ⟨⟨a, m⟩, hx⟩ : ∃ s, (rowsL f k).getD q default = s := ⟨_, rfl⟩
      refine rowsL_next h hl hx (fun e => ?_)
      cases k with
      | zero => simp [rowsL] at hl
      | succ k =>
        rw [Nat.add_sub_cancel] at h0
        rw [rowsL_no h0] at hl hx
        have := rowsL_bd hl hx
        omega
/-- one more row is laid behind -/
theorem appP {w : World} {base : Nat} {v : Value} {l : List (Nat × Nat)} (a b : Nat) (h : PKO w base v l) (hb : base ≤ w.heap.size) (hl : l.length ≤ 100000) :
    ∃ v' w', (Builtin.append_ #[37, 37] 37 #[v, .slice (some ⟨w.heap.size, 0, none⟩) 1 1]).run Tryd.prog (w.alloc (.cells #[.int .i64 (a : Nat), .int .i64 (b : Nat)] (46 : Nat))) = .ok v' w' ∧ PKO w' base v' (l ++ [(a, b)]) ∧ Below base w w' := by
  obtain ⟨v', w', hrun, ho, hg, _, _⟩ := appE pT (h.alloc (.cells #[.int .i64 (a : Nat), .int .i64 (b : Nat)] (46 : Nat))) (eP_new w a b (46 : Nat)) (by rw [World.size_alloc]; omega) (by omega) (by simp)
  exact ⟨v', w', hrun, ho, ((Below.refl base w).alloc hb _).trans (grown_below hg (by rw [World.size_alloc]; omega) (fun k hk => (h.lt k hk).1))⟩
set_option maxRecDepth 10000 in
set_option maxHeartbeats 1000000 in
theorem drows_any {w : World} {base B : Nat} {v : Value} {S : List St} (hI : YAt w base B v S) (hS : SOk S) (hl : S.length ≤ 10000) :
    Calls Tryd.prog 55 #[.pointer (some ⟨B, 0, none⟩)] w fun e w' => RowsP w S e w' ∧ Below w.heap.size w w' := by
  obtain ⟨nn, hnn⟩ : ∃ n, S.length = n := ⟨_, rfl⟩
  have hn9 : nn ≤ 10000 := by omega
  obtain ⟨f, hf⟩ : ∃ f, (fun k => hadS (gS S k)) = f := ⟨_, rfl⟩
  have hMy := Lib.hid (fun w1 (hb : Below w.heap.size w w1) (j : Nat) (hj : j < nn) => show Calls Tryd.prog 86 #[.pointer (some ⟨B, 0, none⟩), .int .i64 (j : Nat)] w1 fun e w' => e = .returned (.bool (f j)) ∧ Below w1.heap.size w1 w' from by
    have h := may_any (hI.keep hb) hS hl j (by omega)
    rw [← hf]; exact h)
  have hMz := Lib.hid (fun w1 (hb : Below w.heap.size w w1) (j : Nat) (hj : j < nn) (h0 : 0 < j) => show Calls Tryd.prog 86 #[.pointer (some ⟨B, 0, none⟩), .int .i64 ((j : Int) - 1)] w1 fun e w' => e = .returned (.bool (f (j - 1))) ∧ Below w1.heap.size w1 w' from by
    have h := may_any (hI.keep hb) hS hl (j - 1) (by omega)
    rw [show (((j - 1 : Nat)) : Int) = (j : Int) - 1 by omega] at h
    rw [← hf]; exact h)
  have hX := Lib.hid (fun w1 (hb : Below w.heap.size w w1) => (hI.keep hb).box.cell)
  have hR : rowsS S = rowsL f nn := by unfold rowsS; rw [hf, hnn]
  obtain ⟨A, cap, rfl⟩ := hI.form hnn
  unfold RowsP
  rw [hR]
  replace hnn := Lib.hid hnn
  clear hI hS hl hf hR
  go_enter Tryd.func55, Tryd.ntmps55
  go_wp2_with fail
  go_loopw [4, 3] (fun i vr wr => ∃ (j : Nat) (l : List (Nat × Nat)), j ≤ nn ∧ i = .int .i64 j ∧ Hid (l = rowsL f j) ∧ PKO wr w.heap.size vr l ∧ Below w.heap.size w wr) (fun i _ _ => nn + 1 - (intOf i).toNat)
  case atStart => exact ⟨0, _, Nat.zero_le _, rfl, (show [] = _ from rfl), OwnE.nil _ _ _ _ _, Below.refl _ _⟩
  case round =>
    obtain ⟨j, l, hj, rfl, hl, hown, hB⟩ := hrel
    have x0 := hX.out wr hB
    by_cases hlt : j < nn
    · have hlt' : (j : Int) < (nn : Int) := by omega
      have hll := rowsL_len f j
      rw [← hl.out] at hll
      have hMj := hMy.out wr hB j hlt
      obtain ⟨L, hL⟩ : ∃ L, l.length = L := ⟨_, rfl⟩
      obtain ⟨Av, cv, rfl⟩ := slFormD hown hL
      cases hfj : f j with
      | false =>
        have hst := Lib.hid (show l = rowsL f (j + 1) from by rw [rowsL_no hfj]; exact hl.out)
        rw [hfj] at hMj
        replace hfj := Lib.hid hfj
        replace hL := Lib.hid hL
        go_wp2_with fail
        refine hMj.mono ?_
        rintro e w4 ⟨rfl, hb⟩
        have hB4 := hB.trans (hb.mono hB.size)
        replace hown := hown.keep hb
        clear hMj hb hB x0 hll
        go_wp2_with fail
        go_roundw
        case rel => exact ⟨j + 1, _, by omega, by go_num, hst, hown, hB4⟩
        case measure => first | (simp [intOf]; done) | (simp [intOf]; omega)
      | true =>
        rw [hfj] at hMj
        have hnew := Lib.hid (fun (h0 : j = 0 ∨ f (j - 1) = false) => rowsL_new hfj h0)
        have hold := Lib.hid (fun (h0 : 0 < j) (h1 : f (j - 1) = true) => show ∃ q a m, l.length = q + 1 ∧ l.getD q default = (a, m) ∧ rowsL f (j + 1) = l.set q (a, m + 1) from by
          obtain ⟨q, a, m, e1, e2, e3⟩ := rowsL_ends h1
          rw [show j - 1 + 1 = j by omega] at e1 e2 e3
          refine ⟨q, a, m, by rw [hl.out]; exact e1, by rw [hl.out]; exact e2, ?_⟩
          rw [hl.out]; exact rowsL_more hfj e1 e2 e3)
        replace hfj := Lib.hid hfj
        replace hL := Lib.hid hL
        go_wp2_with fail
        refine hMj.mono ?_
        rintro e w4 ⟨rfl, hb⟩
        have hB4 := hB.trans (hb.mono hB.size)
        replace hown := hown.keep hb
        clear hMj hb hB x0
        by_cases h0 : j = 0
        · subst h0
          have hst := Lib.hid (show l ++ [(0, 1)] = rowsL f (0 + 1) from by rw [hnew.out (.inl rfl), ← hl.out])
          obtain ⟨v', w5, hrun, ho, hb⟩ := appP 0 1 hown hB4.size (by omega)
          rw [show (((0 : Nat)) : Int) = 0 from rfl, show (((1 : Nat)) : Int) = 1 from rfl] at hrun
          have hB5 := hB4.trans hb
          clear hown hll hb hnew hold hB4
          go_wp2_with (at_builtin; refine wpList_append_run rfl _ _ 37 rfl _ _ _ rfl rfl hrun ?_)
          go_roundw
          case rel => exact ⟨0 + 1, _, by omega, by go_num, hst, ho, hB5⟩
          case measure => first | (simp [intOf]; done) | (simp [intOf]; omega)
        · have h0' : (0 : Int) < (j : Int) := by omega
          have hMq := hMz.out w4 hB4 j hlt (by omega)
          cases hfq : f (j - 1) with
          | false =>
            have hst := Lib.hid (show l ++ [(j, 1)] = rowsL f (j + 1) from by rw [hnew.out (.inr hfq), ← hl.out])
            rw [hfq] at hMq
            replace hfq := Lib.hid hfq
            clear hnew hold
            go_wp2_with fail
            refine hMq.mono ?_
            rintro e w5 ⟨rfl, hb⟩
            have hB5 := hB4.trans (hb.mono hB4.size)
            replace hown := hown.keep hb
            clear hMq hb hB4
            obtain ⟨v', w6, hrun, ho, hb⟩ := appP j 1 hown hB5.size (by omega)
            rw [show (((1 : Nat)) : Int) = 1 from rfl] at hrun
            have hB6 := hB5.trans hb
            clear hown hll hb hB5
            go_wp2_with (at_builtin; refine wpList_append_run rfl _ _ 37 rfl _ _ _ rfl rfl hrun ?_)
            go_roundw
            case rel => exact ⟨j + 1, _, by omega, by go_num, hst, ho, hB6⟩
            case measure => first | (simp [intOf]; done) | (simp [intOf]; omega)
          | true =>
            obtain ⟨q, a, m, hq, hx, hst0⟩ := hold.out (by omega) hfq
            have hst := Lib.hid (show l.set q (a, m + 1) = rowsL f (j + 1) from hst0.symm)
            rw [hfq] at hMq
            replace hfq := Lib.hid hfq
            obtain rfl : L = q + 1 := by rw [← hL.out, hq]
            have hbd : a + m ≤ j := rowsL_bd (f := f) (k := j) (q := q) (a := a) (m := m) (by rw [← hl.out]; exact hq) (by rw [← hl.out]; exact hx)
            replace hx := Lib.hid hx
            replace hq := Lib.hid hq
            clear hnew hold hst0 hL
            go_wp2_with fail
            refine hMq.mono ?_
            rintro e w5 ⟨rfl, hb⟩
            have hB5 := hB4.trans (hb.mono hB4.size)
            replace hown := hown.keep hb
            clear hMq hb hB4
            obtain ⟨gR, cR, hve, hg1, hg2, hg3⟩ := hown.form (by have := hq.out; omega)
            simp only [Value.slice.injEq] at hve
            obtain ⟨rfl, -, rfl⟩ := hve
            have r1 := OwnE.cell eP_len hown hq.out (i := q) (j := 1) (by omega) (by omega)
            rw [hx.out] at r1
            obtain ⟨r1, z1⟩ := r1
            simp only [eP, Nat.add_zero, List.getElem?_cons_zero, List.getElem?_cons_succ] at r1
            have hset := OwnE.set (x' := (a, m + 1)) (u := .int .i64 ((m + 1 : Nat) : Int)) eP_len hown hq.out (i := q) (j := 1) (by omega) (by omega) (by rw [hx.out]; rfl)
            have g2 : q < q + 1 := by omega
            have g4 : (((m + 1 : Nat) : Int)) = (m : Int) + 1 := by omega
            rw [g4] at hset
            have hB6 : Below w.heap.size w (w5.setCell ⟨gR, q * 2 + 1, none⟩ (.int .i64 ((m : Int) + 1))) := hB5.setCell hg1 _
            have hm9 : m ≤ 10000 := by omega
            have hq9 : q ≤ 10000 := by have := hq.out; omega
            clear g4 hown hll hbd hg1 hg2 hg3
            go_wp2_with fail
            go_roundw
            case rel => exact ⟨j + 1, _, by omega, by go_num, hst, hset, hB6⟩
            case measure => first | (simp [intOf]; done) | (simp [intOf]; omega)
    · obtain rfl : j = nn := by omega
      have hlf := hl.out
      subst hlf
      go_wp2_with fail
      go_ret
      exact ⟨⟨_, rfl, hown⟩, hB⟩
end Go.Proofs.YtnjifmecaeagaaaDoor
end
