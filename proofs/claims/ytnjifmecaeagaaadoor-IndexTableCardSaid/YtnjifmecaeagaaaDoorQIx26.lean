/-
  The laws of package index: IndexTable.
-/
import Derived.Test.YtnjifmecaeagaaaDoorQF
import Derived.Test.YtnjifmecaeagaaaDoorQE
import Derived.Test.YtnjifmecaeagaaaDoorQIxR
set_option linter.unusedVariables false
set_option linter.unusedSimpArgs false
namespace Go.Proofs.YtnjifmecaeagaaaDoor
open Go.Lib Go.RowKit Go.ChangeShapes Go.WideShapes Go.Deep
theorem drop_noTk {S : List St} (h : noTk S) (ch ix cl mn : Int) : (dropS S ch ix cl mn).1 = false := by
  unfold dropS; rw [if_pos (.inr (by rw [h, Nat.zero_and]))]
theorem keep_noTk0 {S : List St} (h : noTk S) (ch ix cl mn : Int) : (keepS S ch ix cl mn).1 = false := by
  unfold keepS; rw [if_pos (.inr (by rw [h, Nat.zero_and]))]
/-- the class of blocks of so many words, looked for among the first j -/
def clJ (x : Nat) : Nat → Nat
  | 0 => 0
  | j + 1 => if blkI (j : Nat) = (x : Nat) then j else clJ x j
theorem clJ_le (x : Nat) : ∀ j, clJ x j ≤ j
  | 0 => Nat.le_refl _
  | j + 1 => by have := clJ_le x j; unfold clJ; split <;> omega
theorem clJ_bl : ∀ c : Nat, c < 3 → clJ (blN c) 3 = c := by decide
def plcOf (b : Bl) : Plc := ⟨b.1, b.2.1, if 32 ≤ b.2.2 then -1 else (clJ b.2.2 3 : Nat), if 32 ≤ b.2.2 then b.2.2 / 32 else 0, false⟩
theorem live_of {t : List Nat} (h : rightT t = true) {b : Bl} (hb : b ∈ blksT t) : LiveAt (t.map stN) (plcOf b) := by
  have hok := (rightT_t h).1
  unfold blksT at hb
  rw [if_pos hok] at hb
  obtain ⟨_, h2, h3⟩ := blksFrom_in 0 t b hb
  rw [Nat.zero_add] at h2
  rw [Nat.sub_zero] at h3
  have hx := all_at hok h2
  refine ⟨by rw [List.length_map]; exact h2, ?_⟩
  have hg : gS (t.map stN) (plcOf b).ch = stN (t.getD b.1 0) := gS_map t h2
  rw [hg]
  generalize t.getD b.1 0 = x at *
  have hr := okN_t hx
  unfold RightN at hr
  unfold blksAt at h3
  split at h3
  · rename_i k1
    obtain ⟨j, hj, e⟩ := List.mem_map.1 h3
    obtain ⟨j1, j2⟩ := liveL_mem.1 hj
    have e1 : b.2.1 = j := by rw [← e]
    have e2 : b.2.2 = blN (cN x) := by rw [← e]
    have hc : cN x < 3 := by omega
    have hl : ¬ 32 ≤ blN (cN x) := by unfold blN; split <;> (try split) <;> (try split) <;> omega
    refine .inl ⟨k1, ?_, ?_, ?_⟩
    · show (if 32 ≤ b.2.2 then (-1 : Int) else (clJ b.2.2 3 : Nat)) = (cN x : Nat)
      rw [e2, if_neg hl, clJ_bl _ hc]
    · show b.2.1 < mnN (cN x)
      rw [e1]; exact j1
    · show (if kN x = 2 then 1 else bN x).testBit b.2.1 = true
      rw [if_neg (by omega), e1]; exact j2
  · split at h3
    · rename_i k2
      rw [List.mem_singleton] at h3
      have e1 : b.2.1 = 0 := by rw [h3]
      have e2 : b.2.2 = mN x * 32 := by rw [h3]
      refine .inr ⟨k2, ?_, e1, ?_, ?_⟩
      · show (if 32 ≤ b.2.2 then (-1 : Int) else (clJ b.2.2 3 : Nat)) = -1
        rw [if_pos (by rw [e2]; omega)]
      · show (if 32 ≤ b.2.2 then b.2.2 / 32 else 0) = mN x
        rw [if_pos (by rw [e2]; omega), e2]; omega
      · show (if kN x = 2 then 1 else bN x) = 1
        rw [if_pos k2]
    · cases h3
theorem Sess.of_new2 {w0 w w1 : World} {t : List Nat} {e : Ending} (h : NewP w t e w1) (hb1 : Below w.heap.size w w1) (hb : Below w0.heap.size w0 w) (hw : Lw w0) (hr : rightT t = true) (hl : t.length ≤ 1000) : ∃ B v, e = .returned (.pointer (some ⟨B, 0, none⟩)) ∧ Sess w0 w1 B v (t.map stN) ∧ (∀ k, v.ownBlock = some k → w.heap.size ≤ k) ∧ w.heap.size ≤ B := by
  obtain ⟨B, v, he, hI⟩ := h
  rw [newS_ok hr] at hI
  have hbb := hb.trans (hb1.mono hb.size)
  exact ⟨B, v, he, ⟨hI.mono hb.size, new_sok hr, by rw [List.length_map]; exact hl, hw.keep hbb, hbb⟩, fun k q => (hI.row.lt k q).1, hI.lo⟩
theorem PlAt.set2 {w : World} {D : Nat} {a b c d : Int} {f : Bool} (h : PlAt w D a b c d f) (c2 : Int) : PlAt (w.setCell ⟨D, 2, none⟩ (.int .i64 c2)) D a b c2 d f ∧ Chg (fun k => k = D) w (w.setCell ⟨D, 2, none⟩ (.int .i64 c2)) := by
  have := heap_setCell_same w D 2 _ _ (.int .i64 c2) h.blk
  exact ⟨⟨this⟩, Chg.setCell (S := fun k => k = D) w D 2 _ rfl⟩
theorem PlAt.set3 {w : World} {D : Nat} {a b c d : Int} {f : Bool} (h : PlAt w D a b c d f) (d2 : Int) : PlAt (w.setCell ⟨D, 3, none⟩ (.int .i64 d2)) D a b c d2 f ∧ Chg (fun k => k = D) w (w.setCell ⟨D, 3, none⟩ (.int .i64 d2)) := by
  have := heap_setCell_same w D 3 _ _ (.int .i64 d2) h.blk
  exact ⟨⟨this⟩, Chg.setCell (S := fun k => k = D) w D 3 _ rfl⟩
theorem PlAt.fr {w : World} {D : Nat} {a b c d : Int} {f : Bool} (h : PlAt w D a b c d f) : ∀ k, w.frozen? ⟨D, k, none⟩ = false := fun k => (row_cell h.blk k).2
/-- a block that lies in a box -/
structure BlAt (w : World) (D : Nat) (a b c : Nat) : Prop where
  blk : w.heap[D]? = some (.cells #[.int .i64 (a : Nat), .int .i64 (b : Nat), .int .i64 (c : Nat)] 44 (0, 0))
theorem BlAt.new (w : World) (a b c : Nat) : BlAt (w.alloc (.cells #[.int .i64 (a : Nat), .int .i64 (b : Nat), .int .i64 (c : Nat)] 44)) w.heap.size a b c := ⟨World.alloc_heap_new w _⟩
theorem BlAt.lt {w : World} {D a b c : Nat} (h : BlAt w D a b c) : D < w.heap.size := (Array.getElem?_eq_some_iff.1 h.blk).1
theorem BlAt.keep {w w1 : World} {D a b c : Nat} (h : BlAt w D a b c) (hb : Below w.heap.size w w1) : BlAt w1 D a b c := ⟨(hb.block D h.lt).trans h.blk⟩
theorem BlAt.chg {w w1 : World} {D a b c : Nat} {P : Nat → Prop} (h : BlAt w D a b c) (hc : Chg P w w1) (hn : ¬ P D) : BlAt w1 D a b c := ⟨(hc.block D h.lt hn).trans h.blk⟩
theorem BlAt.cells {w : World} {D a b c : Nat} (h : BlAt w D a b c) : w.cell? ⟨D, 0, none⟩ = some (.int .i64 (a : Nat)) ∧ w.cell? ⟨D, 1, none⟩ = some (.int .i64 (b : Nat)) ∧ w.cell? ⟨D, 2, none⟩ = some (.int .i64 (c : Nat)) :=
  ⟨(row_cell h.blk 0).1, (row_cell h.blk 1).1, (row_cell h.blk 2).1⟩
set_option maxRecDepth 100000 in
set_option maxHeartbeats 4000000 in
theorem indexTable (v : Value) (l : List Nat)  (w : World) (hw : Lw w) (hH : HL l) (hv : KL .u16 w v l)  :
    Calls Tryd.prog 10 #[v] w fun e w' => e = .returned (.bool true) ∧ Below w.heap.size w w' := by
  have hAw := awake17 w hw
  obtain ⟨nn, hnn⟩ : ∃ n, l.length = n := ⟨_, rfl⟩
  obtain ⟨A, cap, rfl, _⟩ := hv.form hnn
  by_cases h40 : 40 < nn
  · have h40' : (40 : Int) < (nn : Int) := by omega
    clear hv hH hw
    replace hnn := Lib.hid hnn
    go_enter Tryd.func10, Tryd.ntmps10
    go_wp2_with fail
    refine hAw.mono ?_
    rintro e w1 ⟨rfl, hb1⟩
    go_wp2_with fail
    go_ret
    exact ⟨rfl, hb1⟩
  have h40' : ¬ (40 : Int) < (nn : Int) := by omega
  have hM1 := Lib.hid (fun w1 (hb : Below w.heap.size w w1) => made_any _ l 20 w1 (hw.keep hb) hH (hv.keep hb) (by omega) (by omega))
  have hwh := Lib.hid hw
  replace hnn := Lib.hid hnn
  clear hv hw hH h40
  go_enter Tryd.func10, Tryd.ntmps10
  go_wp2_with fail
  refine hAw.mono ?_
  rintro e w1 ⟨rfl, hb1⟩
  have hMa := hM1.out _ hb1
  rw [show (((20 : Nat) : Int)) = 20 from rfl] at hMa
  clear hAw hM1
  go_wp2_with fail
  refine hMa.mono ?_
  rintro e w2 ⟨v2, t, rfl, ho2, hrt, htl, hb2⟩
  have hB2 := hb1.trans (hb2.mono hb1.size)
  have hk2 := ho2.kl
  obtain ⟨tn, htn⟩ : ∃ k, t.length = k := ⟨_, rfl⟩
  obtain ⟨At, ct, rfl⟩ := ho2.sl htn
  have hNw := new_any _ t w2 (hwh.out.keep hB2) hk2 (rightT_WL hrt) (by omega)
  clear ho2 hMa hb1 hb2
  go_wp2_with fail
  refine hNw.mono ?_
  rintro e w3 ⟨hP, hb3⟩
  obtain ⟨B, vx, rfl, hS3, hvx, hBx⟩ := Sess.of_new2 hP hb3 hB2 hwh.out hrt (by omega)
  have hk3 := hk2.keep hb3
  clear hNw hP
  have hl0 := Lib.hid htl
  have hWL := Lib.hid (rightT_WL hrt)
  have hBk := blocksT_any _ t w3 hS3.lw hk3 (rightT_WL hrt) (by omega)
  go_wp2_with fail
  refine hBk.mono ?_
  rintro e w4 ⟨v4, rfl, ho4, hb4⟩
  have hS4 := hS3.keep hb4
  have hne4 := Lib.hid (fun k (q : v4.ownBlock = some k) => hS3.notOwn (D := k) (ho4.lt k q).1)
  have hwl := blksT_len t
  obtain ⟨wn, hwn⟩ : ∃ k, (blksT t).length = k := ⟨_, rfl⟩
  obtain ⟨Aw, cw, rfl⟩ := ho4.sl hwn
  have hwn9 : wn ≤ 160 := by omega
  have hB24 := Lib.hid (hb3.trans (hb4.mono hb3.size))
  have hs24 := Lib.hid hB24.out.size
  replace hvx := Lib.hid hvx
  replace hk2 := Lib.hid hk2
  have hn0 := new_noTk t
  have htab := Lib.hid (table_new hrt)
  have hrow := Lib.hid (show rowsT t = rowsS (t.map stN) from by rw [← rows_same (new_sok hrt) (new_noTk t), table_new hrt])
  have hlv := Lib.hid (fun k (hk : k < wn) => live_of hrt (getD_mem (l := blksT t) default (show k < (blksT t).length by omega)))
  have hw9 := Lib.hid (fun k (hk : k < wn) => blks_bd (getD_mem (l := blksT t) default (show k < (blksT t).length by omega)))
  have hsf := Lib.hid ((congrArg List.length (sFrom_new hrt)).trans hwn)
  have hS0t : Hid (t.map stN = t.map stN) := Lib.hid rfl
  have hC4 := Chg.refl (fun k => vx.ownBlock = some k) w4
  have hBo := Lib.hid (fun (c : Int) w => refBlk_any c w)
  generalize hS0 : t.map stN = S0 at *
  replace hwn := Lib.hid hwn
  replace hrt := Lib.hid hrt
  replace hS0 := Lib.hid hS0
  clear hS3 hk3 hb3 hb4 hBk hwl htl hB2 htn hS0t
  go_wp2_with fail
  go_loopw [26] (fun iv wr => ∃ (i : Nat), i ≤ wn ∧ iv = .int .i64 i ∧ Sess w wr B vx S0 ∧ Chg (fun k => vx.ownBlock = some k) w4 wr) (fun iv _ => wn + 1 - (intOf iv).toNat)
  case atStart => exact ⟨0, Nat.zero_le _, rfl, hS4, hC4⟩
  case round =>
    obtain ⟨i, hi, rfl, hS, hCw⟩ := hrel
    clear hS4 hC4
    by_cases hlt : i < wn
    · have hlt' : (i : Int) < (wn : Int) := by omega
      obtain ⟨Aw2, cw2, he, hWl⟩ := BKL.form ((ho4.chg hCw hne4.out).el eB_len) hwn.out
      simp only [Value.slice.injEq, true_and] at he
      obtain ⟨rfl, rfl⟩ := he
      obtain ⟨gb, ob, hAe, hcap, _, hgb, r0, r1, r2⟩ := hWl wr i (Below.refl _ _) hlt
      subst hAe
      have hlive := hlv.out i hlt
      have hww := hw9.out i hlt
      generalize (blksT t).getD i default = b at *
      obtain ⟨a1, a2, a3⟩ := b
      unfold plcOf at hlive
      simp only [] at r0 r1 r2 hlive hww
      have hS0r := hS
      have hCw0 := hCw
      have pb := BlAt.new wr a1 a2 a3
      have hnD7 := hS.notOwn (Nat.le_refl _)
      have hA := (Below.refl wr.heap.size wr).alloc (Nat.le_refl _) (.cells #[.int .i64 (a1 : Nat), .int .i64 (a2 : Nat), .int .i64 (a3 : Nat)] 44)
      replace hS := hS.keep hA
      replace hCw := hCw.trans (Chg.of_below (fun k => vx.ownBlock = some k) hA) (fun j q => .inl q)
      obtain ⟨b0, b1, b2⟩ := pb.cells
      have hz4 := Lib.hid hCw0.size
      have hxz := Lib.hid (show B < wr.heap.size ∧ ∀ k, vx.ownBlock = some k → k < wr.heap.size from ⟨hS0r.ix.box.lt, fun k q => (hS0r.ix.row.lt k q).2⟩)
      have hsz := Lib.hid hS0r.bel.size
      have pa := PlAt.new (wr.alloc (.cells #[.int .i64 (a1 : Nat), .int .i64 (a2 : Nat), .int .i64 (a3 : Nat)] 44)) a1 a2 0 0 false
      have hnD := hS.notOwn (Nat.le_refl _)
      have hA2 := (Below.refl (wr.alloc (.cells #[.int .i64 (a1 : Nat), .int .i64 (a2 : Nat), .int .i64 (a3 : Nat)] 44)).heap.size (wr.alloc (.cells #[.int .i64 (a1 : Nat), .int .i64 (a2 : Nat), .int .i64 (a3 : Nat)] 44))).alloc (Nat.le_refl _) (.cells #[.int .i64 (a1 : Nat), .int .i64 (a2 : Nat), .int .i64 0, .int .i64 0, .bool false] 62)
      replace hS := hS.keep hA2
      replace hCw := hCw.trans (Chg.of_below (fun k => vx.ownBlock = some k) hA2) (fun j q => .inl q)
      replace pb := pb.keep hA2
      rw [World.size_alloc] at pa hnD
      obtain ⟨wz, rfl⟩ : ∃ x, x = wr := ⟨_, rfl⟩
      clear hWl hA hA2 hS0r hCw0
      go_wp2_with fail
      clear b0 b1 b2 r0 r1 r2
      go_loopw [9] (fun iv wr => ∃ (j : Nat), j ≤ 3 ∧ iv = .int .i64 j ∧ Sess w wr B vx S0 ∧ PlAt wr (wz.heap.size + 1) (a1 : Nat) (a2 : Nat) (clJ a3 j : Nat) 0 false ∧ BlAt wr wz.heap.size a1 a2 a3 ∧ Chg (fun k => vx.ownBlock = some k) w4 wr) (fun iv _ => 4 - (intOf iv).toNat)
      case atStart => exact ⟨0, by omega, rfl, hS, pa, pb, hCw⟩
      case round =>
        clear hS pa pb hCw
        obtain ⟨j, hj, rfl, hS, pa, pb, hCw⟩ := hrel
        by_cases hj3 : j < 3
        · have hj3' : (j : Int) < 3 := by omega
          obtain ⟨b0, b1, b2⟩ := pb.cells
          have hcl : clJ a3 (j + 1) = if blkI (j : Nat) = (a3 : Nat) then j else clJ a3 j := rfl
          have hBj := Lib.hid (fun w => hBo.out (j : Nat) w)
          generalize blkI (j : Nat) = bj at *
          by_cases hbe : bj = (a3 : Nat)
          · rw [if_pos hbe] at hcl
            have t1 : (bj == (a3 : Int)) = true := by rw [beq_iff_eq]; exact hbe
            have pd := pa.keep (Below.refl wr.heap.size wr).drew
            obtain ⟨pe, hCe⟩ := pd.set2 (j : Nat)
            rw [← hcl] at pe
            obtain ⟨c0, c1, c2, c3, c4⟩ := pa.cells
            have cf := pa.fr 2
            have hSe := (hS.keep (Below.refl wr.heap.size wr).drew).other2 hwh.out hCe (n := wz.heap.size) (fun k q => by omega) hsz.out hxz.out.1 hxz.out.2
            have pbe := (pb.keep (Below.refl wr.heap.size wr).drew).chg hCe (by omega)
            have hCwe := (hCw.trans (Chg.of_below (fun k => vx.ownBlock = some k) (Below.refl wr.heap.size wr).drew) (fun j q => .inl q)).trans hCe (fun k q => .inr (by have := hz4.out; omega))
            rw [hcl] at pe
            replace hcl := Lib.hid hcl
            clear hS pa pb hCw pd hCe hbe
            go_wp2_with fail
            refine wp_region_held_drew (S := (fun w' => w' = wr.drew)) (by kernel_rfl) ?_ (fun hHeld => ?_)
            · (try dsimp only)
              (first | done | rfl)
            refine takeL 0 (v := ?_) rfl (by kernel_rfl) (by kernel_rfl) (by kernel_rfl) (fun _ _ _ h => h) (by rfl) (by assumption) ?_ ?_
            rotate_left
            · (intro w hSw; (subst hSw); go_simp <;> with_reducible rfl)
            try simp only [Act.put, List.setIfInBounds_toArray, List.set_cons_zero, List.set_cons_succ]
            refine takeL 2 (v := ?_) rfl (by kernel_rfl) (by kernel_rfl) (by kernel_rfl) (fun _ _ _ h => h) (by rfl) (by assumption) ?_ ?_
            rotate_left
            · (intro w hSw; (subst hSw); go_simp <;> with_reducible rfl)
            try simp only [Act.put, List.setIfInBounds_toArray, List.set_cons_zero, List.set_cons_succ]
            refine takeL 3 (v := ?_) rfl (by kernel_rfl) (by kernel_rfl) (by kernel_rfl) (fun _ _ _ h => h) (by rfl) (by assumption) ?_ ?_
            rotate_left
            · (intro w hSw; (subst hSw); go_simp <;> with_reducible rfl)
            try simp only [Act.put, List.setIfInBounds_toArray, List.set_cons_zero, List.set_cons_succ]
            refine oneL 1 rfl (by kernel_rfl) (fun K hK => ?_)
            go_simp
            (refine (hBj.out _).mono ?_; rintro e w9 ⟨rfl, rfl⟩)
            refine hK.out _ _ ?_ (fun hHeld2 => ?_)
            · (try dsimp only)
              (first | done | rfl)
            clear hK K hHeld
            have hHeld := hHeld2
            clear hHeld2
            try simp only [Act.put, List.setIfInBounds_toArray, List.set_cons_zero, List.set_cons_succ]
            refine takeL 4 (v := ?_) rfl (by kernel_rfl) (by kernel_rfl) (by kernel_rfl) (fun _ _ _ h => h) (by rfl) (by assumption) ?_ ?_
            rotate_left
            · (intro w hSw; (subst hSw); go_simp <;> with_reducible rfl)
            try simp only [Act.put, List.setIfInBounds_toArray, List.set_cons_zero, List.set_cons_succ]
            refine wpAnyH_done (by kernel_rfl) ?_ _
            clear hHeld
            go_wp2_with fail
            go_roundw
            case rel => exact ⟨j + 1, by omega, by go_num, hSe, by rw [hcl.out]; exact pe, pbe, hCwe⟩
            case measure => first | (simp [intOf]; done) | (simp [intOf]; omega)
          · rw [if_neg hbe] at hcl
            have t1 : (bj == (a3 : Int)) = false := by rw [beq_eq_false_iff_ne]; exact hbe
            have hd := (Below.refl wr.heap.size wr).drew
            have hSe := hS.keep hd
            have pe := pa.keep hd
            have pbe := pb.keep hd
            have hCwe := hCw.trans (Chg.of_below (fun k => vx.ownBlock = some k) hd) (fun j q => .inl q)
            replace hcl := Lib.hid hcl
            clear hS pa pb hCw hbe hd
            go_wp2_with fail
            refine wp_region_held_drew (S := (fun w' => w' = wr.drew)) (by kernel_rfl) ?_ (fun hHeld => ?_)
            · (try dsimp only)
              (first | done | rfl)
            refine takeL 0 (v := ?_) rfl (by kernel_rfl) (by kernel_rfl) (by kernel_rfl) (fun _ _ _ h => h) (by rfl) (by assumption) ?_ ?_
            rotate_left
            · (intro w hSw; (subst hSw); go_simp <;> with_reducible rfl)
            try simp only [Act.put, List.setIfInBounds_toArray, List.set_cons_zero, List.set_cons_succ]
            refine takeL 2 (v := ?_) rfl (by kernel_rfl) (by kernel_rfl) (by kernel_rfl) (fun _ _ _ h => h) (by rfl) (by assumption) ?_ ?_
            rotate_left
            · (intro w hSw; (subst hSw); go_simp <;> with_reducible rfl)
            try simp only [Act.put, List.setIfInBounds_toArray, List.set_cons_zero, List.set_cons_succ]
            refine takeL 3 (v := ?_) rfl (by kernel_rfl) (by kernel_rfl) (by kernel_rfl) (fun _ _ _ h => h) (by rfl) (by assumption) ?_ ?_
            rotate_left
            · (intro w hSw; (subst hSw); go_simp <;> with_reducible rfl)
            try simp only [Act.put, List.setIfInBounds_toArray, List.set_cons_zero, List.set_cons_succ]
            refine oneL 1 rfl (by kernel_rfl) (fun K hK => ?_)
            go_simp
            (refine (hBj.out _).mono ?_; rintro e w9 ⟨rfl, rfl⟩)
            refine hK.out _ _ ?_ (fun hHeld2 => ?_)
            · (try dsimp only)
              (first | done | rfl)
            clear hK K hHeld
            have hHeld := hHeld2
            clear hHeld2
            try simp only [Act.put, List.setIfInBounds_toArray, List.set_cons_zero, List.set_cons_succ]
            refine takeL 4 (v := ?_) rfl (by kernel_rfl) (by kernel_rfl) (by kernel_rfl) (fun _ _ _ h => h) (by rfl) (by assumption) ?_ ?_
            rotate_left
            · (intro w hSw; (subst hSw); go_simp <;> with_reducible rfl)
            try simp only [Act.put, List.setIfInBounds_toArray, List.set_cons_zero, List.set_cons_succ]
            refine wpAnyH_done (by kernel_rfl) ?_ _
            clear hHeld
            go_wp2_with fail
            go_roundw
            case rel => exact ⟨j + 1, by omega, by go_num, hSe, by rw [hcl.out]; exact pe, pbe, hCwe⟩
            case measure => first | (simp [intOf]; done) | (simp [intOf]; omega)
        · obtain rfl : j = 3 := by omega
          obtain ⟨b0, b1, b2⟩ := pb.cells
          obtain ⟨c0, c1, c2, c3, c4⟩ := pa.cells
          have cf2 := pa.fr 2
          have cf3 := pa.fr 3
          clear hj3
          by_cases h32 : 32 ≤ a3
          · have t1 : decide ((32 : Int) ≤ (a3 : Int)) = true := decide_eq_true (by omega)
            rw [if_pos h32, if_pos h32] at hlive
            obtain ⟨p2, hC2⟩ := pa.set2 (-1)
            obtain ⟨p3, hC3⟩ := p2.set3 ((a3 / 32 : Nat) : Int)
            have hS2 := (hS.other2 hwh.out hC2 (n := wz.heap.size) (fun k q => by omega) hsz.out hxz.out.1 hxz.out.2).other2 hwh.out hC3 (n := wz.heap.size) (fun k q => by omega) hsz.out hxz.out.1 hxz.out.2
            have hCw2 := (hCw.trans hC2 (fun k q => .inr (by have := hz4.out; omega))).trans hC3 (fun k q => .inr (by have := hz4.out; omega))
            have q1 : (a3 : Int) / 32 = ((a3 / 32 : Nat) : Int) := by omega
            have q2 : ((a3 : Int)).tdiv 32 = ((a3 / 32 : Nat) : Int) := by rw [Int.tdiv_eq_ediv_of_nonneg (by omega)]; exact q1
            obtain ⟨d, hd⟩ : ∃ d, a3 / 32 = d := ⟨_, rfl⟩
            rw [hd] at q1 q2 p3 hC3 hlive hS2 hCw2
            have hb3 : (wr.setCell ⟨wz.heap.size + 1, 2, none⟩ (.int .i64 (-1))).cell? ⟨wz.heap.size, 2, none⟩ = some (.int .i64 (a3 : Nat)) := (pb.chg hC2 (by omega)).cells.2.2
            have cg3 := p2.fr 3
            obtain ⟨e0, e1, e2, e3, e4⟩ := p2.cells
            replace hd := Lib.hid hd
            clear hS hCw pa hC2 hC3 p2 pb h32
            obtain ⟨W, hW⟩ : ∃ W, (wr.setCell ⟨wz.heap.size + 1, 2, none⟩ (.int .i64 (-1))).setCell ⟨wz.heap.size + 1, 3, none⟩ (.int .i64 (d : Nat)) = W := ⟨_, rfl⟩
            rw [hW] at p3 hS2 hCw2
            obtain ⟨g0, g1, g2, g3, g4⟩ := p3.cells
            go_wp2_with fail
            have pa := p3
            have hS := hS2
            have hCw := hCw2
            clear p3 hS2 hCw2 hW g0 g1 g2 g3 g4 q1 q2 hb3 cg3 e0 e1 e2 e3 e4 b0 b1 b2 c0 c1 c2 c3 c4 cf2 cf3
            have hlive := Lib.hid hlive
            have hFo := Lib.hid (free_ok hS.ok hlive.out)
            have hX : Calls Tryd.prog 41 #[.pointer (some ⟨B, 0, none⟩), plV (a1 : Nat) (a2 : Nat) (-1) (d : Nat) false] _ _ := hS.dropNo (p := ⟨a1, a2, (-1), d, false⟩) hwh.out (drop_noTk hn0 _ _ _ _)
            obtain ⟨c0, c1, c2, c3, c4⟩ := pa.cells
            go_wp2_with fail
            refine hX.mono ?_
            rintro e w6 ⟨rfl, hS6, hC6⟩
            replace pa := pa.chg hC6 hnD
            replace hCw := hCw.trans hC6 (fun j q => .inl q)
            have hX2 : Calls Tryd.prog 43 #[.pointer (some ⟨B, 0, none⟩), plV (a1 : Nat) (a2 : Nat) (-1) (d : Nat) false] _ _ := hS6.keepNo (p := ⟨a1, a2, (-1), d, false⟩) hwh.out (keep_noTk0 hn0 _ _ _ _)
            clear hX hC6 hS c0 c1 c2 c3 c4
            obtain ⟨c0, c1, c2, c3, c4⟩ := pa.cells
            go_wp2_with fail
            refine hX2.mono ?_
            rintro e w7 ⟨rfl, hS7, hC7⟩
            replace pa := pa.chg hC7 hnD
            replace hCw := hCw.trans hC7 (fun j q => .inl q)
            have hb7 : Below w2.heap.size w2 w7 := hB24.out.trans (hCw.below hvx.out hs24.out)
            have hX := new_any _ t w7 hS7.lw (hk2.out.keep hb7) hWL.out (by have := hl0.out; omega)
            clear hX2 hC7 hS6 c0 c1 c2 c3 c4
            go_wp2_with fail
            refine hX.mono ?_
            rintro e w8 ⟨hP, hb8⟩
            obtain ⟨B2, v2, rfl, hY8, hv2, hB2⟩ := Sess.of_new2 hP hb8 hS7.bel hwh.out hrt.out (by have := hl0.out; omega)
            rw [hS0.out] at hY8
            have hS8 := hS7.keep hb8
            have hD7 := pa.lt
            replace pa := pa.keep hb8
            have hz7 := hCw.size
            replace hCw := hCw.trans (Chg.of_below (fun k => vx.ownBlock = some k) hb8) (fun j q => .inl q)
            have hx7 : B < w7.heap.size ∧ ∀ k, vx.ownBlock = some k → k < w7.heap.size := ⟨hS7.ix.box.lt, fun k q => (hS7.ix.row.lt k q).2⟩
            have hs7 := hS7.bel.size
            have hv2D : ∀ k, k < w7.heap.size → ¬ v2.ownBlock = some k := fun k hk q => by have := hv2 k q; omega
            have hX3 : Calls Tryd.prog 45 #[.pointer (some ⟨B2, 0, none⟩), plV (a1 : Nat) (a2 : Nat) (-1) (d : Nat) false] _ _ := hY8.freeOk (p := ⟨a1, a2, (-1), d, false⟩) hwh.out hlive.out
            obtain ⟨c0, c1, c2, c3, c4⟩ := pa.cells
            replace hv2 := Lib.hid hv2
            replace hv2D := Lib.hid hv2D
            replace hx7 := Lib.hid hx7
            clear hX hb8 hP hS7 hb7
            go_wp2_with fail
            refine hX3.mono ?_
            rintro e w9 ⟨rfl, hY9, hC9⟩
            have hS9 := hS8.other2 hwh.out hC9 hv2.out hs7 hx7.out.1 hx7.out.2
            replace pa := pa.chg hC9 (hv2D.out _ hD7)
            replace hCw := hCw.trans hC9 (fun k q => .inr (Nat.le_trans hz7 (hv2.out k q)))
            have hX : Calls Tryd.prog 45 #[.pointer (some ⟨B2, 0, none⟩), plV (a1 : Nat) (a2 : Nat) (-1) (d : Nat) false] _ _ := hY9.freeNo (p := ⟨a1, a2, (-1), d, false⟩) hwh.out hFo.out.noFree
            clear hX3 hC9 hS8 hY8 c0 c1 c2 c3 c4
            obtain ⟨c0, c1, c2, c3, c4⟩ := pa.cells
            go_wp2_with fail
            refine hX.mono ?_
            rintro e w10 ⟨rfl, hY10, hC10⟩
            have hS10 := hS9.other2 hwh.out hC10 hv2.out hs7 hx7.out.1 hx7.out.2
            replace hCw := hCw.trans hC10 (fun k q => .inr (Nat.le_trans hz7 (hv2.out k q)))
            have hX2 := hY10.table
            obtain ⟨hWt, hLt⟩ : WL (tableS (freeS S0 (a1 : Nat) (a2 : Nat) (-1) (d : Nat)).2) ∧ (tableS (freeS S0 (a1 : Nat) (a2 : Nat) (-1) (d : Nat)).2).length ≤ 1000 := by
              refine ⟨fun y hy => ?_, by rw [table_len]; exact hY10.len⟩
              have := okN_bd (List.all_eq_true.1 (table_ok hY10.ok) y hy)
              omega
            have hbt := blks_table hY10.ok
            have hless := hFo.out.less
            obtain ⟨fn, hfn⟩ : ∃ k, (sFrom 0 (freeS S0 (a1 : Nat) (a2 : Nat) (-1) (d : Nat)).2).length = k := ⟨_, rfl⟩
            replace hless : Hid (wn = fn + 1) := Lib.hid (by rw [← hfn, ← hsf.out]; exact hless)
            replace hfn := Lib.hid hfn
            clear hX hC10 hS9 hY9 c0 c1 c2 c3 c4 pa
            go_wp2_with fail
            refine hX2.mono ?_
            rintro e w11 ⟨⟨v11, rfl, ho11⟩, hb11⟩
            have hS11 := hS10.keep hb11
            replace hCw := hCw.trans (Chg.of_below (fun k => vx.ownBlock = some k) hb11) (fun j q => .inl q)
            have hX := blocksT_any _ _ w11 hS11.lw ho11.kl hWt (by omega)
            rw [hbt] at hX
            clear hX2 ho11 hb11 hS10 hY10
            go_wp2_with fail
            refine hX.mono ?_
            rintro e w12 ⟨v12, rfl, ho12, hb12⟩
            obtain ⟨A12, c12, rfl⟩ := ho12.sl hfn.out
            have hS12 := hS11.keep hb12
            replace hCw := hCw.trans (Chg.of_below (fun k => vx.ownBlock = some k) hb12) (fun j q => .inl q)
            have hb12' : Below w2.heap.size w2 w12 := hB24.out.trans (hCw.below hvx.out hs24.out)
            have hX2 := blocksT_any _ t w12 hS12.lw (hk2.out.keep hb12') hWL.out (by have := hl0.out; omega)
            clear hX ho12 hb12 hS11 hb12'
            go_wp2_with fail
            refine hX2.mono ?_
            rintro e w13 ⟨v13, rfl, ho13, hb13⟩
            obtain ⟨A13, c13, rfl⟩ := ho13.sl hwn.out
            have hS13 := hS12.keep hb13
            replace hCw := hCw.trans (Chg.of_below (fun k => vx.ownBlock = some k) hb13) (fun j q => .inl q)
            have f1 : IntKind.i64.wrap ((wn : Int) - 1) = (fn : Int) := by have := hless.out; rw [IntKind.wrap_i64]; omega
            have f2 : ((fn : Int) != (wn : Int) - 1) = false := by have := hless.out; rw [bne_eq_false_iff_eq]; omega
            clear hX2 ho13 hb13 hS12 hbt hWt hLt
            go_wp2_with fail
            clear f1 f2
            go_roundw
            case rel => exact ⟨i + 1, by omega, by go_num, hS13, hCw⟩
            case measure => first | (simp [intOf]; done) | (simp [intOf]; omega)
          · have t1 : decide ((32 : Int) ≤ (a3 : Int)) = false := decide_eq_false (by omega)
            rw [if_neg h32, if_neg h32] at hlive
            obtain ⟨c, hc⟩ : ∃ c : Int, ((clJ a3 3 : Nat) : Int) = c := ⟨_, rfl⟩
            rw [hc] at hlive pa c2
            replace hc := Lib.hid hc
            clear h32 cf2 cf3
            have hlive := Lib.hid hlive
            have hFo := Lib.hid (free_ok hS.ok hlive.out)
            have hX : Calls Tryd.prog 41 #[.pointer (some ⟨B, 0, none⟩), plV (a1 : Nat) (a2 : Nat) c (0 : Nat) false] _ _ := hS.dropNo (p := ⟨a1, a2, c, 0, false⟩) hwh.out (drop_noTk hn0 _ _ _ _)
            obtain ⟨c0, c1, c2, c3, c4⟩ := pa.cells
            go_wp2_with fail
            refine hX.mono ?_
            rintro e w6 ⟨rfl, hS6, hC6⟩
            replace pa := pa.chg hC6 hnD
            replace hCw := hCw.trans hC6 (fun j q => .inl q)
            have hX2 : Calls Tryd.prog 43 #[.pointer (some ⟨B, 0, none⟩), plV (a1 : Nat) (a2 : Nat) c (0 : Nat) false] _ _ := hS6.keepNo (p := ⟨a1, a2, c, 0, false⟩) hwh.out (keep_noTk0 hn0 _ _ _ _)
            clear hX hC6 hS c0 c1 c2 c3 c4
            obtain ⟨c0, c1, c2, c3, c4⟩ := pa.cells
            go_wp2_with fail
            refine hX2.mono ?_
            rintro e w7 ⟨rfl, hS7, hC7⟩
            replace pa := pa.chg hC7 hnD
            replace hCw := hCw.trans hC7 (fun j q => .inl q)
            have hb7 : Below w2.heap.size w2 w7 := hB24.out.trans (hCw.below hvx.out hs24.out)
            have hX := new_any _ t w7 hS7.lw (hk2.out.keep hb7) hWL.out (by have := hl0.out; omega)
            clear hX2 hC7 hS6 c0 c1 c2 c3 c4
            go_wp2_with fail
            refine hX.mono ?_
            rintro e w8 ⟨hP, hb8⟩
            obtain ⟨B2, v2, rfl, hY8, hv2, hB2⟩ := Sess.of_new2 hP hb8 hS7.bel hwh.out hrt.out (by have := hl0.out; omega)
            rw [hS0.out] at hY8
            have hS8 := hS7.keep hb8
            have hD7 := pa.lt
            replace pa := pa.keep hb8
            have hz7 := hCw.size
            replace hCw := hCw.trans (Chg.of_below (fun k => vx.ownBlock = some k) hb8) (fun j q => .inl q)
            have hx7 : B < w7.heap.size ∧ ∀ k, vx.ownBlock = some k → k < w7.heap.size := ⟨hS7.ix.box.lt, fun k q => (hS7.ix.row.lt k q).2⟩
            have hs7 := hS7.bel.size
            have hv2D : ∀ k, k < w7.heap.size → ¬ v2.ownBlock = some k := fun k hk q => by have := hv2 k q; omega
            have hX3 : Calls Tryd.prog 45 #[.pointer (some ⟨B2, 0, none⟩), plV (a1 : Nat) (a2 : Nat) c (0 : Nat) false] _ _ := hY8.freeOk (p := ⟨a1, a2, c, 0, false⟩) hwh.out hlive.out
            obtain ⟨c0, c1, c2, c3, c4⟩ := pa.cells
            replace hv2 := Lib.hid hv2
            replace hv2D := Lib.hid hv2D
            replace hx7 := Lib.hid hx7
            clear hX hb8 hP hS7 hb7
            go_wp2_with fail
            refine hX3.mono ?_
            rintro e w9 ⟨rfl, hY9, hC9⟩
            have hS9 := hS8.other2 hwh.out hC9 hv2.out hs7 hx7.out.1 hx7.out.2
            replace pa := pa.chg hC9 (hv2D.out _ hD7)
            replace hCw := hCw.trans hC9 (fun k q => .inr (Nat.le_trans hz7 (hv2.out k q)))
            have hX : Calls Tryd.prog 45 #[.pointer (some ⟨B2, 0, none⟩), plV (a1 : Nat) (a2 : Nat) c (0 : Nat) false] _ _ := hY9.freeNo (p := ⟨a1, a2, c, 0, false⟩) hwh.out hFo.out.noFree
            clear hX3 hC9 hS8 hY8 c0 c1 c2 c3 c4
            obtain ⟨c0, c1, c2, c3, c4⟩ := pa.cells
            go_wp2_with fail
            refine hX.mono ?_
            rintro e w10 ⟨rfl, hY10, hC10⟩
            have hS10 := hS9.other2 hwh.out hC10 hv2.out hs7 hx7.out.1 hx7.out.2
            replace hCw := hCw.trans hC10 (fun k q => .inr (Nat.le_trans hz7 (hv2.out k q)))
            have hX2 := hY10.table
            obtain ⟨hWt, hLt⟩ : WL (tableS (freeS S0 (a1 : Nat) (a2 : Nat) c (0 : Nat)).2) ∧ (tableS (freeS S0 (a1 : Nat) (a2 : Nat) c (0 : Nat)).2).length ≤ 1000 := by
              refine ⟨fun y hy => ?_, by rw [table_len]; exact hY10.len⟩
              have := okN_bd (List.all_eq_true.1 (table_ok hY10.ok) y hy)
              omega
            have hbt := blks_table hY10.ok
            have hless := hFo.out.less
            obtain ⟨fn, hfn⟩ : ∃ k, (sFrom 0 (freeS S0 (a1 : Nat) (a2 : Nat) c (0 : Nat)).2).length = k := ⟨_, rfl⟩
            replace hless : Hid (wn = fn + 1) := Lib.hid (by rw [← hfn, ← hsf.out]; exact hless)
            replace hfn := Lib.hid hfn
            clear hX hC10 hS9 hY9 c0 c1 c2 c3 c4 pa
            go_wp2_with fail
            refine hX2.mono ?_
            rintro e w11 ⟨⟨v11, rfl, ho11⟩, hb11⟩
            have hS11 := hS10.keep hb11
            replace hCw := hCw.trans (Chg.of_below (fun k => vx.ownBlock = some k) hb11) (fun j q => .inl q)
            have hX := blocksT_any _ _ w11 hS11.lw ho11.kl hWt (by omega)
            rw [hbt] at hX
            clear hX2 ho11 hb11 hS10 hY10
            go_wp2_with fail
            refine hX.mono ?_
            rintro e w12 ⟨v12, rfl, ho12, hb12⟩
            obtain ⟨A12, c12, rfl⟩ := ho12.sl hfn.out
            have hS12 := hS11.keep hb12
            replace hCw := hCw.trans (Chg.of_below (fun k => vx.ownBlock = some k) hb12) (fun j q => .inl q)
            have hb12' : Below w2.heap.size w2 w12 := hB24.out.trans (hCw.below hvx.out hs24.out)
            have hX2 := blocksT_any _ t w12 hS12.lw (hk2.out.keep hb12') hWL.out (by have := hl0.out; omega)
            clear hX ho12 hb12 hS11 hb12'
            go_wp2_with fail
            refine hX2.mono ?_
            rintro e w13 ⟨v13, rfl, ho13, hb13⟩
            obtain ⟨A13, c13, rfl⟩ := ho13.sl hwn.out
            have hS13 := hS12.keep hb13
            replace hCw := hCw.trans (Chg.of_below (fun k => vx.ownBlock = some k) hb13) (fun j q => .inl q)
            have f1 : IntKind.i64.wrap ((wn : Int) - 1) = (fn : Int) := by have := hless.out; rw [IntKind.wrap_i64]; omega
            have f2 : ((fn : Int) != (wn : Int) - 1) = false := by have := hless.out; rw [bne_eq_false_iff_eq]; omega
            clear hX2 ho13 hb13 hS12 hbt hWt hLt
            go_wp2_with fail
            clear f1 f2
            go_roundw
            case rel => exact ⟨i + 1, by omega, by go_num, hS13, hCw⟩
            case measure => first | (simp [intOf]; done) | (simp [intOf]; omega)
    · obtain rfl : i = wn := by omega
      have hX := hS.table
      have hb1 : Below w2.heap.size w2 wr := hB24.out.trans (hCw.below hvx.out hs24.out)
      clear hlt hlv hw9
      go_wp2_with fail
      refine hX.mono ?_
      rintro e w6 ⟨⟨v6, rfl, ho6⟩, hb6⟩
      have htt : tableS S0 = t := by rw [← hS0.out]; exact table_new hrt.out
      rw [htt] at ho6
      have hb2 := hb1.trans (hb6.mono (by have := hB24.out.size; have := hb1.size; omega))
      have hS6 := hS.keep hb6
      have hX2 := words_any _ _ t t w6 (by have := hl0.out; omega) ho6.kl (hk2.out.keep hb2)
      rw [decide_eq_true rfl] at hX2
      replace htt := Lib.hid htt
      clear hX ho6 hb6 hS hCw
      go_wp2_with fail
      refine hX2.mono ?_
      rintro e w7 ⟨rfl, hb7⟩
      have hS7 := hS6.keep hb7
      have hb3 := hb2.trans (hb7.mono hb2.size)
      have hX := hS7.rows
      clear hX2 hS6 hb7
      go_wp2_with fail
      refine hX.mono ?_
      rintro e w8 ⟨⟨v8, rfl, ho8⟩, hb8⟩
      have hS8 := hS7.keep hb8
      have hb4 := hb3.trans (hb8.mono hb3.size)
      have hX2 := rowsT_any _ t w8 hS8.lw (hk2.out.keep hb4) hWL.out (by have := hl0.out; omega)
      have hrr : rowsT t = rowsS S0 := hrow.out
      rw [hrr] at hX2
      have hk8 := ho8.el eP_len
      have hrl : (rowsS S0).length ≤ 1000 := by have := rowsS_len S0; have := hS8.len; omega
      replace hrr := Lib.hid hrr
      clear hX ho8 hb8 hS7
      go_wp2_with fail
      refine hX2.mono ?_
      rintro e w9 ⟨v9, rfl, ho9, hb9⟩
      have hS9 := hS8.keep hb9
      have hX := sameSp _ _ (rowsS S0) (rowsS S0) w9 (by omega) (hk8.keep hb9) (ho9.el eP_len)
      rw [decide_eq_true rfl] at hX
      clear hX2 ho9 hb9 hS8 hk8
      go_wp2_with fail
      refine hX.mono ?_
      rintro e w10 ⟨rfl, hb10⟩
      have hS10 := hS9.keep hb10
      go_wp2_with fail
      go_ret
      exact ⟨rfl, hS10.bel⟩
end Go.Proofs.YtnjifmecaeagaaaDoor
