/-
  Package index: what is known of chunks, in memory; New.
  Package index: a chunk with other blocks, its room, whether it can be had.
-/
import Derived.Test.YtnjifmecaeagaaaDoorTi8
import Derived.Test.YtnjifmecaeagaaaDoorIxM
import Derived.Test.YtnjifmecaeagaaaDoorRegQ
section
set_option linter.unusedVariables false
set_option linter.unusedSimpArgs false
namespace Go.Proofs.YtnjifmecaeagaaaDoor
open Go.RowKit Go.ChangeShapes Go.WideShapes Go.Deep Go.Shelf
/-- blocks of S, and new ones, alone may have changed -/
structure Chg (S : Nat → Prop) (w w' : World) : Prop where
  os : w'.os = w.os
  tape : w'.tape = w.tape
  output : w'.output = w.output
  size : w.heap.size ≤ w'.heap.size
  block : ∀ k, k < w.heap.size → ¬ S k → w'.heap[k]? = w.heap[k]?
theorem Chg.refl (S : Nat → Prop) (w : World) : Chg S w w := ⟨rfl, rfl, rfl, Nat.le_refl _, fun _ _ _ => rfl⟩
theorem Chg.trans {S S2 : Nat → Prop} {a b c : World} (h : Chg S a b) (k : Chg S2 b c) (hs : ∀ j, S2 j → S j ∨ a.heap.size ≤ j) : Chg S a c :=
  ⟨k.os.trans h.os, k.tape.trans h.tape, k.output.trans h.output, Nat.le_trans h.size k.size, fun j hj hn => (k.block j (Nat.lt_of_lt_of_le hj h.size) (fun q => by rcases hs j q with q | q; exact hn q; omega)).trans (h.block j hj hn)⟩
theorem Chg.of_below (S : Nat → Prop) {w w' : World} (h : Below w.heap.size w w') : Chg S w w' := ⟨h.os, h.tape, h.output, h.size, fun k hk _ => h.block k hk⟩
theorem Chg.of_grown {S : Nat → Prop} {w w' : World} {row : Option Nat} (h : w.grownBy w' row) (hr : ∀ k, row = some k → S k ∨ w.heap.size ≤ k) : Chg S w w' :=
  ⟨h.os, h.tape, h.output, h.size, fun k hk hn => h.block k hk (fun e => by rcases hr k e.symm with q | q; exact hn q; omega)⟩
theorem size_setCell (w : World) (a : Addr) (v : Value) : (w.setCell a v).heap.size = w.heap.size := by simp [World.setCell]
theorem Chg.setCell {S : Nat → Prop} (w : World) (b o : Nat) (v : Value) (h : S b) : Chg S w (w.setCell ⟨b, o, none⟩ v) :=
  ⟨rfl, rfl, rfl, by rw [size_setCell]; exact Nat.le_refl _, fun k hk hn => Below.heap_setCell _ _ _ _ (fun e => hn (by simp only [] at e; rw [e]; exact h))⟩
theorem Chg.below {S : Nat → Prop} {w w' : World} {N : Nat} (h : Chg S w w') (hN : ∀ k, S k → N ≤ k) (hN2 : N ≤ w.heap.size) : Below N w w' :=
  ⟨h.os, h.tape, h.output, h.size, fun k hk => h.block k (by omega) (fun q => by have := hN k q; omega)⟩
/-- a list of the call's own stays -/
theorem OwnE.chg {α : Type} {e : TypeId} {sz : Nat} {en : α → List Value} {S : Nat → Prop} {w w1 : World} {base : Nat} {v : Value} {l : List α} (h : OwnE e sz en w base v l) (hc : Chg S w w1) (hn : ∀ k, v.ownBlock = some k → ¬ S k) : OwnE e sz en w1 base v l := by
  refine ⟨h.1, ?_⟩
  rcases h.2 with h2 | ⟨g, cap, cur, hv, hbg, hg, h1, h2, h3, h4⟩
  · exact .inl h2
  · exact .inr ⟨g, cap, cur, hv, hbg, by rw [hc.block g (Array.getElem?_eq_some_iff.1 hg).1 (hn g (by rw [hv]; rfl))]; exact hg, h1, h2, h3, h4⟩
theorem wp_append_run {P : Program} {w w' : World} {o : Oper} {a : Act} {K : Act → World → Prop} {Q : Exit → Act → World → Prop} (s x : Operand) (t u : TypeId)
    (hop : o.op = Op.call { callee := Callee.builtin Builtin.append, args := #[s, x], argTypes := #[t, u] }) (vs vx v : Value) (hs : a.eval s = vs) (hx : a.eval x = vx)
    (hrun : (Builtin.append_ #[t, u] o.type #[vs, vx]).run P w = .ok v w') (h : K (a.put o.dst v) w') : Oper.wp P o a w K Q := by
  unfold Oper.wp
  simp [execOp, hop, resolve, invoke, builtin, hs, hx, hrun, Result.andThen]
  exact h
def eS (s : St) : List Value := [.int .i64 (kN s.1 : Nat), .int .i64 (cN s.1 : Nat), .int .i64 (lnN s.1 : Nat), .int .i64 (mN s.1 : Nat), .int .u64 (bN s.1 : Nat), .int .u64 (s.2.1 : Nat), .int .u64 (s.2.2 : Nat)]
theorem eS_len (x : St) : (eS x).length = 7 := rfl
theorem infoS : (Tryd.prog.info? 99).map (fun i => (i.zero, i.size, i.bytes)) = some (some (.agg #[.int .i64 0, .int .i64 0, .int .i64 0, .int .i64 0, .int .u64 0, .int .u64 0, .int .u64 0]), 7, 56) := by kernel_rfl
theorem sT : ElT Tryd.prog 95 99 7 56 eS :=
  ⟨Tryd.underlying95, by obtain ⟨i0, h1, h2, h3, h4⟩ := info_parts infoS; exact ⟨i0, _, h1, h2, h3, h4, rfl⟩, eS_len, fun x u hu => by simp only [eS, List.mem_cons, List.not_mem_nil, or_false] at hu; rcases hu with rfl | rfl | rfl | rfl | rfl | rfl | rfl <;> rfl, by decide, by decide⟩
abbrev SKO (w : World) (base : Nat) (v : Value) (l : List St) : Prop := OwnE 99 7 eS w base v l
theorem eS_new (w : World) (s : St) (t : TypeId) : EL 7 eS (w.alloc (.cells #[.int .i64 (kN s.1 : Nat), .int .i64 (cN s.1 : Nat), .int .i64 (lnN s.1 : Nat), .int .i64 (mN s.1 : Nat), .int .u64 (bN s.1 : Nat), .int .u64 (s.2.1 : Nat), .int .u64 (s.2.2 : Nat)] t)) (.slice (some ⟨w.heap.size, 0, none⟩) 1 1) [s] := by
  refine ⟨_, _, rfl, fun _ => ⟨w.heap.size, 0, rfl, by simp, by simp, fun i hi j hj => ?_⟩⟩
  have hi0 : i = 0 := by simp at hi; omega
  subst hi0
  have h5 : j = 0 ∨ j = 1 ∨ j = 2 ∨ j = 3 ∨ j = 4 ∨ j = 5 ∨ j = 6 := by omega
  rcases h5 with rfl | rfl | rfl | rfl | rfl | rfl | rfl <;> simp [go_sem, eS]
/-- an index: its box in block B, its row of chunks -/
structure IxAt (w : World) (base B : Nat) (v : Value) (S : List St) : Prop where
  box : Boxed w B 97 v
  row : SKO w base v S
  lo : base ≤ B
theorem IxAt.ne {w : World} {base B : Nat} {v : Value} {S : List St} (h : IxAt w base B v S) : ∀ k, v.ownBlock = some k → k ≠ B := by
  rintro k hk rfl
  have hb : w.heap[k]? = some (.cells #[v] 97 (0, 0)) := h.box
  rcases h.row.2 with ⟨rfl, _⟩ | ⟨g, cap, cur, rfl, _, hg, _⟩
  · cases hk
  · cases hk
    rw [hb] at hg
    cases hg
theorem IxAt.keep {w w1 : World} {base B : Nat} {v : Value} {S : List St} (h : IxAt w base B v S) (hb : Below w.heap.size w w1) : IxAt w1 base B v S :=
  ⟨(hb.block B h.box.lt).trans h.box, h.row.keep hb, h.lo⟩
theorem IxAt.chg {F : Nat → Prop} {w w1 : World} {base B : Nat} {v : Value} {S : List St} (h : IxAt w base B v S) (hc : Chg F w w1) (hB : ¬ F B) (hv : ∀ k, v.ownBlock = some k → ¬ F k) : IxAt w1 base B v S :=
  ⟨(hc.block B h.box.lt hB).trans h.box, h.row.chg hc hv, h.lo⟩
def newS (t : List Nat) : List St := if rightT t then t.map (fun x => (x, if kN x = 2 then 1 else bN x, 0)) else []
def stN (x : Nat) : St := (x, if kN x = 2 then 1 else bN x, 0)
theorem newS_ok {t : List Nat} (h : rightT t = true) : newS t = t.map stN := by unfold newS; rw [if_pos h]; rfl
def NewP (w : World) (t : List Nat) (e : Ending) (w' : World) : Prop := ∃ B v', e = .returned (.pointer (some ⟨B, 0, none⟩)) ∧ IxAt w' w.heap.size B v' (newS t)
theorem newS_no {t : List Nat} (h : rightT t = false) : newS t = [] := by unfold newS; rw [if_neg (by rw [h]; simp)]

set_option maxRecDepth 10000 in
set_option maxHeartbeats 1000000 in
theorem new_any (v : Value) (t : List Nat) (w : World) (hw : Lw w) (hv : KL .u64 w v t) (hW : WL t) (hl : t.length ≤ 10000) :
    Calls Tryd.prog 36 #[v] w fun e w' => NewP w t e w' ∧ Below w.heap.size w w' := by
  have hb0 : Below w.heap.size w (w.alloc (.cells #[.slice none 0 0] 97)) := (Below.refl _ _).alloc (Nat.le_refl _) _
  have hI0 : IxAt (w.alloc (.cells #[.slice none 0 0] 97)) w.heap.size w.heap.size (.slice none 0 0) [] := ⟨Boxed.new w _ _, OwnE.nil _ _ _ _ _, Nat.le_refl _⟩
  have hRt := right_any2 v t _ (hw.keep hb0) (hv.keep hb0) hW (by omega)
  obtain ⟨nn, hnn⟩ : ∃ n, t.length = n := ⟨_, rfl⟩
  cases hrt : rightT t with
  | false =>
    rw [hrt] at hRt
    have hN := newS_no hrt
    obtain ⟨A, cap, rfl, _⟩ := hv.form hnn
    replace hnn := Lib.hid hnn
    clear hv hw hW hl hrt
    replace hN := Lib.hid hN
    go_enter Tryd.func36, Tryd.ntmps36
    go_wp2_with fail
    refine hRt.mono ?_
    rintro e w1 ⟨rfl, hb1⟩
    go_wp2_with fail
    go_ret
    exact ⟨⟨_, _, rfl, by rw [hN.out]; exact hI0.keep hb1⟩, hb0.trans (hb1.mono hb0.size)⟩
  | true =>
    rw [hrt] at hRt
    have hN := newS_ok hrt
    have hCk := Lib.hid (fun w1 (hb : Below w.heap.size w w1) => chunks_any v t w1 (hw.keep hb) (hv.keep hb) hW (by omega))
    have hok := (rightT_t hrt).1
    have hn9 : nn ≤ 10000 := by omega
    obtain ⟨A, cap, rfl, _⟩ := hv.form hnn
    have hTs := Lib.hid (fun k (hk : k < nn) => show (t.take k).map stN ++ [stN (t.getD k 0)] = (t.take (k + 1)).map stN from by rw [take_snoc (by omega), List.map_append]; rfl)
    have hTe := Lib.hid (show (t.take nn).map stN = t.map stN from by rw [take_all hnn])
    have hTl := Lib.hid (fun k (hk : k ≤ nn) => show ((t.take k).map stN).length = k from by rw [List.length_map, List.length_take]; omega)
    have hbdx := Lib.hid (fun x => parts_bd x)
    replace hN := Lib.hid hN
    replace hnn := Lib.hid hnn
    clear hv hw hW hl hrt
    go_enter Tryd.func36, Tryd.ntmps36
    go_wp2_with fail
    refine hRt.mono ?_
    rintro e w1 ⟨rfl, hb1⟩
    have hB1 := hb0.trans (hb1.mono hb0.size)
    have hI1 := hI0.keep hb1
    have hCc := hCk.out _ hB1
    have hs01 : w.heap.size < w1.heap.size := hI1.box.lt
    clear hRt hI0 hb0 hb1 hCk
    go_wp2_with fail
    refine hCc.mono ?_
    rintro e w2 ⟨hP, hb2⟩
    rcases hP with ⟨_, v3, rfl, ho3⟩ | ⟨hno, _⟩
    rotate_left
    · rw [hok] at hno; cases hno
    have hB2 := hB1.trans (hb2.mono hB1.size)
    have hI2 := hI1.keep hb2
    have hs12 := hb2.size
    obtain ⟨A3, c3, rfl, _⟩ := CKL.form (ho3.el eC_len) hnn.out
    have hrow3 : ∀ k, Value.ownBlock (.slice A3 nn c3) = some k → ¬ k = w.heap.size := fun k q e => by have := (ho3.lt k q).1; omega
    replace hrow3 := Lib.hid hrow3
    replace hok := Lib.hid hok
    clear hCc hB1 hI1 hb2
    obtain ⟨B, hBe⟩ : ∃ B, w.heap.size = B := ⟨_, rfl⟩
    rw [hBe] at hI2 hrow3 hs01 ⊢
    go_wp2_with fail
    go_loopw [22] (fun i wr => ∃ (j : Nat) (J : List St) (v9 : Value), j ≤ nn ∧ i = .int .i64 j ∧ Hid (J = (t.take j).map stN) ∧ IxAt wr B B v9 J ∧ (∀ k, v9.ownBlock = some k → w2.heap.size ≤ k) ∧ Chg (fun k => k = B) w2 wr) (fun i _ => nn + 1 - (intOf i).toNat)
    case atStart => exact ⟨0, [], _, Nat.zero_le _, rfl, Lib.hid (by simp), hI2, (fun k q => by cases q), Chg.refl _ _⟩
    case round =>
      obtain ⟨j, J, v9, hj, rfl, hJ, hI, hvl, hC⟩ := hrel
      by_cases hlt : j < nn
      · have hlt' : (j : Int) < (nn : Int) := by omega
        have ho4 := ho3.chg hC hrow3.out
        obtain ⟨A4, c4, he, hD⟩ := CKL.form (ho4.el eC_len) hnn.out
        simp only [Value.slice.injEq, true_and] at he
        obtain ⟨rfl, rfl⟩ := he
        obtain ⟨g, off, rfl, hcap, _, hg, p0, p1, p2, p3, p4⟩ := hD wr j (Below.refl _ _) hlt
        have hJl : Hid (J.length = j) := Lib.hid (by rw [hJ.out]; exact hTl.out j hj)
        have hts := hTs.out j hlt
        rw [← hJ.out] at hts
        have hbd := hbdx.out (t.getD j 0)
        have hvB8 : Hid (∀ k, v9.ownBlock = some k → ¬ k = wr.heap.size + 1) := Lib.hid (fun k q => by have := (hI.row.lt k q).2; omega)
        generalize t.getD j 0 = x at *
        have hA1 : Below wr.heap.size wr (wr.alloc (.cells #[.int .i64 (kN x : Nat), .int .i64 (cN x : Nat), .int .i64 (lnN x : Nat), .int .i64 (mN x : Nat), .int .u64 (bN x : Nat)] 29)) := (Below.refl _ _).alloc (Nat.le_refl _) _
        obtain ⟨B8, hB8⟩ : ∃ B8, wr.heap.size + 1 = B8 := ⟨_, rfl⟩
        rw [hB8] at hvB8
        clear hD ho4
        by_cases k2 : kN x = 2
        · have k2'' : (((kN x : Nat) : Int) == 2) = true := by rw [beq_iff_eq]; omega
          have hJn : Hid (J ++ [(x, 1, 0)] = (t.take (j + 1)).map stN) := Lib.hid (by rw [← hts]; unfold stN; rw [if_pos k2])
          have hA2 := hA1.alloc hA1.size (.cells #[.int .i64 (kN x : Nat), .int .i64 (cN x : Nat), .int .i64 (lnN x : Nat), .int .i64 (mN x : Nat), .int .u64 (bN x : Nat), .int .u64 1, .int .u64 0] 99)
          have hI5 := hI.keep hA2
          have hC5 : Chg (fun k => k = B) w2 ((wr.alloc (.cells #[.int .i64 (kN x : Nat), .int .i64 (cN x : Nat), .int .i64 (lnN x : Nat), .int .i64 (mN x : Nat), .int .u64 (bN x : Nat)] 29)).alloc (.cells #[.int .i64 (kN x : Nat), .int .i64 (cN x : Nat), .int .i64 (lnN x : Nat), .int .i64 (mN x : Nat), .int .u64 (bN x : Nat), .int .u64 1, .int .u64 0] 99)) := hC.trans (Chg.of_below (fun _ => False) hA2) (fun k q => q.elim)
          have hbB5 : Below B w ((wr.alloc (.cells #[.int .i64 (kN x : Nat), .int .i64 (cN x : Nat), .int .i64 (lnN x : Nat), .int .i64 (mN x : Nat), .int .u64 (bN x : Nat)] 29)).alloc (.cells #[.int .i64 (kN x : Nat), .int .i64 (cN x : Nat), .int .i64 (lnN x : Nat), .int .i64 (mN x : Nat), .int .u64 (bN x : Nat), .int .u64 1, .int .u64 0] 99)) := by
            rw [← hBe]; exact hB2.trans (hC5.below (by intro k q; omega) (by omega))
          clear hts hA1 hA2 hI hC k2
          go_wp2_with fail
          generalize hW5 : (wr.alloc (.cells #[.int .i64 (kN x : Nat), .int .i64 (cN x : Nat), .int .i64 (lnN x : Nat), .int .i64 (mN x : Nat), .int .u64 (bN x : Nat)] 29)).alloc (.cells #[.int .i64 (kN x : Nat), .int .i64 (cN x : Nat), .int .i64 (lnN x : Nat), .int .i64 (mN x : Nat), .int .u64 (bN x : Nat), .int .u64 1, .int .u64 0] 99) = W5 at *
          obtain ⟨x0, x1, x2, x3, x4, x5, x6⟩ : (W5.cell? ⟨B8, 0, none⟩ = some (.int .i64 (kN x : Nat)) ∧ W5.cell? ⟨B8, 1, none⟩ = some (.int .i64 (cN x : Nat)) ∧ W5.cell? ⟨B8, 2, none⟩ = some (.int .i64 (lnN x : Nat)) ∧ W5.cell? ⟨B8, 3, none⟩ = some (.int .i64 (mN x : Nat)) ∧ W5.cell? ⟨B8, 4, none⟩ = some (.int .u64 (bN x : Nat)) ∧ W5.cell? ⟨B8, 5, none⟩ = some (.int .u64 1) ∧ W5.cell? ⟨B8, 6, none⟩ = some (.int .u64 0)) := by
            rw [← hW5, ← hB8]
            refine ⟨?_, ?_, ?_, ?_, ?_, ?_, ?_⟩ <;> simp [go_sem]
          have xB := hI5.box.cell
          refine wp_region_tail (S := (fun w' => w'.cell? ⟨B, 0, none⟩ = some v9 ∧ (w'.cell? ⟨B8, 0, none⟩ = some (.int .i64 (kN x : Nat)) ∧ w'.cell? ⟨B8, 1, none⟩ = some (.int .i64 (cN x : Nat)) ∧ w'.cell? ⟨B8, 2, none⟩ = some (.int .i64 (lnN x : Nat)) ∧ w'.cell? ⟨B8, 3, none⟩ = some (.int .i64 (mN x : Nat)) ∧ w'.cell? ⟨B8, 4, none⟩ = some (.int .u64 (bN x : Nat)) ∧ w'.cell? ⟨B8, 5, none⟩ = some (.int .u64 1) ∧ w'.cell? ⟨B8, 6, none⟩ = some (.int .u64 0)))) (n := 8) (by kernel_rfl) ?_ (fun hHeld hInv => ?_) (by decide)
          · (try dsimp only)
            (first | assumption | (exact ⟨xB, ⟨x0, x1, x2, x3, x4, x5, x6⟩⟩) | (exact ⟨hc1, ⟨(hB8c 0).trans x0, (hB8c 1).trans x1, (hB8c 2).trans x2, (hB8c 3).trans x3, (hB8c 4).trans x4, (hB8c 5).trans x5, (hB8c 6).trans x6⟩⟩) | ((try go_split_ands); exact ⟨cellK5 (by assumption) hb, ⟨cellK5 (by assumption) hb, cellK5 (by assumption) hb, cellK5 (by assumption) hb, cellK5 (by assumption) hb, cellK5 (by assumption) hb, cellK5 (by assumption) hb, cellK5 (by assumption) hb⟩⟩))
          refine takeVS 0 hInv ?_; clear hInv; intro hInv
          refine takeVS 1 hInv ?_; clear hInv; intro hInv
          refine takeVS 2 hInv ?_; clear hInv; intro hInv
          refine takeVS 3 hInv ?_; clear hInv; intro hInv
          refine takeVS 4 hInv ?_; clear hInv; intro hInv
          refine takeVS 5 hInv ?_; clear hInv; intro hInv
          refine oneS 6 hInv (by decide) rfl (by kernel_rfl) (fun K hK => ?_)
          go_simp
          have hb := (Below.refl W5.drew.heap.size W5.drew).alloc (Nat.le_refl _) (.cells #[.int .i64 (kN x : Nat), .int .i64 (cN x : Nat), .int .i64 (lnN x : Nat), .int .i64 (mN x : Nat), .int .u64 (bN x : Nat), .int .u64 1, .int .u64 0] (99 : Nat))
          refine hK.out _ _ ?_ (fun hHeld2 hInv2 => ?_)
          · (try dsimp only)
            (first | assumption | (exact ⟨xB, ⟨x0, x1, x2, x3, x4, x5, x6⟩⟩) | (exact ⟨hc1, ⟨(hB8c 0).trans x0, (hB8c 1).trans x1, (hB8c 2).trans x2, (hB8c 3).trans x3, (hB8c 4).trans x4, (hB8c 5).trans x5, (hB8c 6).trans x6⟩⟩) | ((try go_split_ands); exact ⟨cellK5 (by assumption) hb, ⟨cellK5 (by assumption) hb, cellK5 (by assumption) hb, cellK5 (by assumption) hb, cellK5 (by assumption) hb, cellK5 (by assumption) hb, cellK5 (by assumption) hb, cellK5 (by assumption) hb⟩⟩))
          clear hK K hHeld hInv
          have hHeld := hHeld2
          have hInv := hInv2
          clear hHeld2 hInv2
          try simp only [Act.put, List.setIfInBounds_toArray, List.set_cons_zero, List.set_cons_succ] at hInv ⊢
          refine oneS 7 hInv (by decide) rfl (by kernel_rfl) (fun K hK => ?_)
          obtain ⟨v', w4, hrun, ho, hg, hl9, _⟩ := appE sT (hI5.row.drew.alloc (.cells #[.int .i64 (kN x : Nat), .int .i64 (cN x : Nat), .int .i64 (lnN x : Nat), .int .i64 (mN x : Nat), .int .u64 (bN x : Nat), .int .u64 1, .int .u64 0] (99 : Nat))) (eS_new W5.drew (x, 1, 0) (99 : Nat)) (by have := hbB5.size; simp; omega) (by rw [hJl.out]; omega) (by simp)
          obtain ⟨g', cap', rfl, _⟩ := ho.form (by simp)
          have hg0 : W5.grownBy w4 v9.ownBlock := ⟨hg.os, hg.tape, hg.output, Nat.le_trans (by simp) hg.size, fun k hk hn => (hg.block k (by simp; omega) hn).trans (Below.heap_alloc _ _ k hk)⟩
          have hrow5 : W5.drew.ownsRow B 99 7 v9 J.length (J.flatMap eS) := hI5.row
          have ho' : w4.ownsRow B 99 7 (.slice (some ⟨g', 0, none⟩) (J ++ [(x, 1, 0)]).length cap') (J ++ [(x, 1, 0)]).length ((J ++ [(x, 1, 0)]).flatMap eS) := ho
          have hbx : Boxed W5.drew B 97 v9 := hI5.box
          obtain ⟨hv1, hv2, hr2, hk2, hb2⟩ := hbx.appended (by decide) hrow5 (show B ≤ W5.heap.size from by have := hbB5.size; omega) hI5.lo ho' hg
          have hc1 := hv1.cell
          have hf1 := hv1.frozen
          have hB8c : ∀ o, w4.cell? ⟨B8, o, none⟩ = W5.cell? ⟨B8, o, none⟩ := fun o => World.cell?_of_block (hg0.block B8 (World.block_lt_of_cell? _ _ x0) (fun e => hvB8.out B8 e.symm rfl))
          (try simp only [World.size_alloc] at hrun)
          rw [if_pos (by rfl)]
          refine wp_append_run _ _ _ _ rfl _ _ _ rfl rfl hrun ?_
          refine hK.out _ _ ?_ (fun hHeld2 hInv2 => ?_)
          · (try dsimp only)
            (first | assumption | (exact ⟨xB, ⟨x0, x1, x2, x3, x4, x5, x6⟩⟩) | (exact ⟨hc1, ⟨(hB8c 0).trans x0, (hB8c 1).trans x1, (hB8c 2).trans x2, (hB8c 3).trans x3, (hB8c 4).trans x4, (hB8c 5).trans x5, (hB8c 6).trans x6⟩⟩) | ((try go_split_ands); exact ⟨cellK5 (by assumption) hb, ⟨cellK5 (by assumption) hb, cellK5 (by assumption) hb, cellK5 (by assumption) hb, cellK5 (by assumption) hb, cellK5 (by assumption) hb, cellK5 (by assumption) hb, cellK5 (by assumption) hb⟩⟩))
          clear hK K hHeld hInv
          have hHeld := hHeld2
          have hInv := hInv2
          clear hHeld2 hInv2
          try simp only [Act.put, List.setIfInBounds_toArray, List.set_cons_zero, List.set_cons_succ] at hInv ⊢
          refine lastS 8 rfl (by decide) (by kernel_rfl) (fun K hK => ?_)
          go_simp
          refine hK.out _ _ ?_
          clear hK K
          try simp only [Act.put, List.setIfInBounds_toArray, List.set_cons_zero, List.set_cons_succ]
          refine lastS 9 rfl (by decide) (by kernel_rfl) (fun K hK => ?_)
          go_simp
          refine hK.out _ _ ?_
          clear hK K
          try simp only [Act.put, List.setIfInBounds_toArray, List.set_cons_zero, List.set_cons_succ]
          refine lastS 10 rfl (by decide) (by kernel_rfl) (fun K hK => ?_)
          go_simp
          refine hK.out _ _ ?_
          clear hK K
          try simp only [Act.put, List.setIfInBounds_toArray, List.set_cons_zero, List.set_cons_succ]
          refine wpAnyS_done (by kernel_rfl) ?_ _
          have hch : Chg (fun k => k = B) w2 (w4.setCell ⟨B, 0, none⟩ (.slice (some ⟨g', 0, none⟩) (J ++ [(x, 1, 0)]).length cap')) := by
            refine Chg.trans (Chg.trans hC5 (Chg.of_grown (S := fun k => v9.ownBlock = some k) hg0 (fun k e => .inl e)) (fun k e => .inr (hvl k e))) (Chg.setCell (S := fun k => k = B) w4 B 0 _ rfl) (fun k e => .inl e)
          have hIN : IxAt (w4.setCell ⟨B, 0, none⟩ (.slice (some ⟨g', 0, none⟩) (J ++ [(x, 1, 0)]).length cap')) B B (.slice (some ⟨g', 0, none⟩) (J ++ [(x, 1, 0)]).length cap') (J ++ [(x, 1, 0)]) := ⟨hv2, hr2, Nat.le_refl _⟩
          have hvn : ∀ k, Value.ownBlock (.slice (some ⟨g', 0, none⟩) (J ++ [(x, 1, 0)]).length cap') = some k → w2.heap.size ≤ k := fun k e => by
            rcases hl9 with q | q
            · rw [q] at e; exact hvl k e
            · rw [q] at e; have := hC5.size; simp at e; omega
          have hlen1 : (J ++ [(x, 1, 0)]).length = J.length + 1 := by simp
          rw [hlen1] at hIN hch hvn
          clear hHeld hInv
          go_wp2_with fail
          go_roundw
          case rel => exact ⟨j + 1, J ++ [(x, 1, 0)], _, by omega, by go_num, hJn, hIN, hvn, hch⟩
          case measure => first | (simp [intOf]; done) | (simp [intOf]; omega)
        · have k2' : ¬ ((kN x : Nat) : Int) = 2 := by omega
          have k2'' : (((kN x : Nat) : Int) == 2) = false := by rw [beq_eq_false_iff_ne]; exact k2'
          have hJn : Hid (J ++ [(x, bN x, 0)] = (t.take (j + 1)).map stN) := Lib.hid (by rw [← hts]; unfold stN; rw [if_neg k2])
          have hA2 := hA1.alloc hA1.size (.cells #[.int .i64 (kN x : Nat), .int .i64 (cN x : Nat), .int .i64 (lnN x : Nat), .int .i64 (mN x : Nat), .int .u64 (bN x : Nat), .int .u64 (bN x : Nat), .int .u64 0] 99)
          have hI5 := hI.keep hA2
          have hC5 : Chg (fun k => k = B) w2 ((wr.alloc (.cells #[.int .i64 (kN x : Nat), .int .i64 (cN x : Nat), .int .i64 (lnN x : Nat), .int .i64 (mN x : Nat), .int .u64 (bN x : Nat)] 29)).alloc (.cells #[.int .i64 (kN x : Nat), .int .i64 (cN x : Nat), .int .i64 (lnN x : Nat), .int .i64 (mN x : Nat), .int .u64 (bN x : Nat), .int .u64 (bN x : Nat), .int .u64 0] 99)) := hC.trans (Chg.of_below (fun _ => False) hA2) (fun k q => q.elim)
          have hbB5 : Below B w ((wr.alloc (.cells #[.int .i64 (kN x : Nat), .int .i64 (cN x : Nat), .int .i64 (lnN x : Nat), .int .i64 (mN x : Nat), .int .u64 (bN x : Nat)] 29)).alloc (.cells #[.int .i64 (kN x : Nat), .int .i64 (cN x : Nat), .int .i64 (lnN x : Nat), .int .i64 (mN x : Nat), .int .u64 (bN x : Nat), .int .u64 (bN x : Nat), .int .u64 0] 99)) := by
            rw [← hBe]; exact hB2.trans (hC5.below (by intro k q; omega) (by omega))
          clear hts hA1 hA2 hI hC
          go_wp2_with fail
          generalize hW5 : (wr.alloc (.cells #[.int .i64 (kN x : Nat), .int .i64 (cN x : Nat), .int .i64 (lnN x : Nat), .int .i64 (mN x : Nat), .int .u64 (bN x : Nat)] 29)).alloc (.cells #[.int .i64 (kN x : Nat), .int .i64 (cN x : Nat), .int .i64 (lnN x : Nat), .int .i64 (mN x : Nat), .int .u64 (bN x : Nat), .int .u64 (bN x : Nat), .int .u64 0] 99) = W5 at *
          obtain ⟨x0, x1, x2, x3, x4, x5, x6⟩ : (W5.cell? ⟨B8, 0, none⟩ = some (.int .i64 (kN x : Nat)) ∧ W5.cell? ⟨B8, 1, none⟩ = some (.int .i64 (cN x : Nat)) ∧ W5.cell? ⟨B8, 2, none⟩ = some (.int .i64 (lnN x : Nat)) ∧ W5.cell? ⟨B8, 3, none⟩ = some (.int .i64 (mN x : Nat)) ∧ W5.cell? ⟨B8, 4, none⟩ = some (.int .u64 (bN x : Nat)) ∧ W5.cell? ⟨B8, 5, none⟩ = some (.int .u64 (bN x : Nat)) ∧ W5.cell? ⟨B8, 6, none⟩ = some (.int .u64 0)) := by
            rw [← hW5, ← hB8]
            refine ⟨?_, ?_, ?_, ?_, ?_, ?_, ?_⟩ <;> simp [go_sem]
          have xB := hI5.box.cell
          refine wp_region_tail (S := (fun w' => w'.cell? ⟨B, 0, none⟩ = some v9 ∧ (w'.cell? ⟨B8, 0, none⟩ = some (.int .i64 (kN x : Nat)) ∧ w'.cell? ⟨B8, 1, none⟩ = some (.int .i64 (cN x : Nat)) ∧ w'.cell? ⟨B8, 2, none⟩ = some (.int .i64 (lnN x : Nat)) ∧ w'.cell? ⟨B8, 3, none⟩ = some (.int .i64 (mN x : Nat)) ∧ w'.cell? ⟨B8, 4, none⟩ = some (.int .u64 (bN x : Nat)) ∧ w'.cell? ⟨B8, 5, none⟩ = some (.int .u64 (bN x : Nat)) ∧ w'.cell? ⟨B8, 6, none⟩ = some (.int .u64 0)))) (n := 8) (by kernel_rfl) ?_ (fun hHeld hInv => ?_) (by decide)
          · (try dsimp only)
            (first | assumption | (exact ⟨xB, ⟨x0, x1, x2, x3, x4, x5, x6⟩⟩) | (exact ⟨hc1, ⟨(hB8c 0).trans x0, (hB8c 1).trans x1, (hB8c 2).trans x2, (hB8c 3).trans x3, (hB8c 4).trans x4, (hB8c 5).trans x5, (hB8c 6).trans x6⟩⟩) | ((try go_split_ands); exact ⟨cellK5 (by assumption) hb, ⟨cellK5 (by assumption) hb, cellK5 (by assumption) hb, cellK5 (by assumption) hb, cellK5 (by assumption) hb, cellK5 (by assumption) hb, cellK5 (by assumption) hb, cellK5 (by assumption) hb⟩⟩))
          refine takeVS 0 hInv ?_; clear hInv; intro hInv
          refine takeVS 1 hInv ?_; clear hInv; intro hInv
          refine takeVS 2 hInv ?_; clear hInv; intro hInv
          refine takeVS 3 hInv ?_; clear hInv; intro hInv
          refine takeVS 4 hInv ?_; clear hInv; intro hInv
          refine takeVS 5 hInv ?_; clear hInv; intro hInv
          refine oneS 6 hInv (by decide) rfl (by kernel_rfl) (fun K hK => ?_)
          go_simp
          have hb := (Below.refl W5.drew.heap.size W5.drew).alloc (Nat.le_refl _) (.cells #[.int .i64 (kN x : Nat), .int .i64 (cN x : Nat), .int .i64 (lnN x : Nat), .int .i64 (mN x : Nat), .int .u64 (bN x : Nat), .int .u64 (bN x : Nat), .int .u64 0] (99 : Nat))
          refine hK.out _ _ ?_ (fun hHeld2 hInv2 => ?_)
          · (try dsimp only)
            (first | assumption | (exact ⟨xB, ⟨x0, x1, x2, x3, x4, x5, x6⟩⟩) | (exact ⟨hc1, ⟨(hB8c 0).trans x0, (hB8c 1).trans x1, (hB8c 2).trans x2, (hB8c 3).trans x3, (hB8c 4).trans x4, (hB8c 5).trans x5, (hB8c 6).trans x6⟩⟩) | ((try go_split_ands); exact ⟨cellK5 (by assumption) hb, ⟨cellK5 (by assumption) hb, cellK5 (by assumption) hb, cellK5 (by assumption) hb, cellK5 (by assumption) hb, cellK5 (by assumption) hb, cellK5 (by assumption) hb, cellK5 (by assumption) hb⟩⟩))
          clear hK K hHeld hInv
          have hHeld := hHeld2
          have hInv := hInv2
          clear hHeld2 hInv2
          try simp only [Act.put, List.setIfInBounds_toArray, List.set_cons_zero, List.set_cons_succ] at hInv ⊢
          refine oneS 7 hInv (by decide) rfl (by kernel_rfl) (fun K hK => ?_)
          obtain ⟨v', w4, hrun, ho, hg, hl9, _⟩ := appE sT (hI5.row.drew.alloc (.cells #[.int .i64 (kN x : Nat), .int .i64 (cN x : Nat), .int .i64 (lnN x : Nat), .int .i64 (mN x : Nat), .int .u64 (bN x : Nat), .int .u64 (bN x : Nat), .int .u64 0] (99 : Nat))) (eS_new W5.drew (x, bN x, 0) (99 : Nat)) (by have := hbB5.size; simp; omega) (by rw [hJl.out]; omega) (by simp)
          obtain ⟨g', cap', rfl, _⟩ := ho.form (by simp)
          have hg0 : W5.grownBy w4 v9.ownBlock := ⟨hg.os, hg.tape, hg.output, Nat.le_trans (by simp) hg.size, fun k hk hn => (hg.block k (by simp; omega) hn).trans (Below.heap_alloc _ _ k hk)⟩
          have hrow5 : W5.drew.ownsRow B 99 7 v9 J.length (J.flatMap eS) := hI5.row
          have ho' : w4.ownsRow B 99 7 (.slice (some ⟨g', 0, none⟩) (J ++ [(x, bN x, 0)]).length cap') (J ++ [(x, bN x, 0)]).length ((J ++ [(x, bN x, 0)]).flatMap eS) := ho
          have hbx : Boxed W5.drew B 97 v9 := hI5.box
          obtain ⟨hv1, hv2, hr2, hk2, hb2⟩ := hbx.appended (by decide) hrow5 (show B ≤ W5.heap.size from by have := hbB5.size; omega) hI5.lo ho' hg
          have hc1 := hv1.cell
          have hf1 := hv1.frozen
          have hB8c : ∀ o, w4.cell? ⟨B8, o, none⟩ = W5.cell? ⟨B8, o, none⟩ := fun o => World.cell?_of_block (hg0.block B8 (World.block_lt_of_cell? _ _ x0) (fun e => hvB8.out B8 e.symm rfl))
          (try simp only [World.size_alloc] at hrun)
          rw [if_pos (by rfl)]
          refine wp_append_run _ _ _ _ rfl _ _ _ rfl rfl hrun ?_
          refine hK.out _ _ ?_ (fun hHeld2 hInv2 => ?_)
          · (try dsimp only)
            (first | assumption | (exact ⟨xB, ⟨x0, x1, x2, x3, x4, x5, x6⟩⟩) | (exact ⟨hc1, ⟨(hB8c 0).trans x0, (hB8c 1).trans x1, (hB8c 2).trans x2, (hB8c 3).trans x3, (hB8c 4).trans x4, (hB8c 5).trans x5, (hB8c 6).trans x6⟩⟩) | ((try go_split_ands); exact ⟨cellK5 (by assumption) hb, ⟨cellK5 (by assumption) hb, cellK5 (by assumption) hb, cellK5 (by assumption) hb, cellK5 (by assumption) hb, cellK5 (by assumption) hb, cellK5 (by assumption) hb, cellK5 (by assumption) hb⟩⟩))
          clear hK K hHeld hInv
          have hHeld := hHeld2
          have hInv := hInv2
          clear hHeld2 hInv2
          try simp only [Act.put, List.setIfInBounds_toArray, List.set_cons_zero, List.set_cons_succ] at hInv ⊢
          refine lastS 8 rfl (by decide) (by kernel_rfl) (fun K hK => ?_)
          go_simp
          refine hK.out _ _ ?_
          clear hK K
          try simp only [Act.put, List.setIfInBounds_toArray, List.set_cons_zero, List.set_cons_succ]
          refine lastS 9 rfl (by decide) (by kernel_rfl) (fun K hK => ?_)
          go_simp
          refine hK.out _ _ ?_
          clear hK K
          try simp only [Act.put, List.setIfInBounds_toArray, List.set_cons_zero, List.set_cons_succ]
          refine lastS 10 rfl (by decide) (by kernel_rfl) (fun K hK => ?_)
          go_simp
          refine hK.out _ _ ?_
          clear hK K
          try simp only [Act.put, List.setIfInBounds_toArray, List.set_cons_zero, List.set_cons_succ]
          refine wpAnyS_done (by kernel_rfl) ?_ _
          have hch : Chg (fun k => k = B) w2 (w4.setCell ⟨B, 0, none⟩ (.slice (some ⟨g', 0, none⟩) (J ++ [(x, bN x, 0)]).length cap')) := by
            refine Chg.trans (Chg.trans hC5 (Chg.of_grown (S := fun k => v9.ownBlock = some k) hg0 (fun k e => .inl e)) (fun k e => .inr (hvl k e))) (Chg.setCell (S := fun k => k = B) w4 B 0 _ rfl) (fun k e => .inl e)
          have hIN : IxAt (w4.setCell ⟨B, 0, none⟩ (.slice (some ⟨g', 0, none⟩) (J ++ [(x, bN x, 0)]).length cap')) B B (.slice (some ⟨g', 0, none⟩) (J ++ [(x, bN x, 0)]).length cap') (J ++ [(x, bN x, 0)]) := ⟨hv2, hr2, Nat.le_refl _⟩
          have hvn : ∀ k, Value.ownBlock (.slice (some ⟨g', 0, none⟩) (J ++ [(x, bN x, 0)]).length cap') = some k → w2.heap.size ≤ k := fun k e => by
            rcases hl9 with q | q
            · rw [q] at e; exact hvl k e
            · rw [q] at e; have := hC5.size; simp at e; omega
          have hlen1 : (J ++ [(x, bN x, 0)]).length = J.length + 1 := by simp
          rw [hlen1] at hIN hch hvn
          clear hHeld hInv
          go_wp2_with fail
          go_roundw
          case rel => exact ⟨j + 1, J ++ [(x, bN x, 0)], _, by omega, by go_num, hJn, hIN, hvn, hch⟩
          case measure => first | (simp [intOf]; done) | (simp [intOf]; omega)
      · obtain rfl : j = nn := by omega
        go_wp2_with fail
        go_ret
        exact ⟨⟨_, _, rfl, by rw [hN.out, hBe, ← hTe.out, ← hJ.out]; exact hI⟩, hB2.trans (hC.below (fun k q => by have e : k = B := q; omega) hB2.size)⟩
end Go.Proofs.YtnjifmecaeagaaaDoor
end
section
set_option linter.unusedVariables false
set_option linter.unusedSimpArgs false
namespace Go.Proofs.YtnjifmecaeagaaaDoor
open Go.RowKit Go.ChangeShapes Go.WideShapes Go.Deep

def bW (x b : Nat) : Nat := if kN x = 1 then b else bN x
set_option maxRecDepth 10000 in
set_option maxHeartbeats 1000000 in
theorem with_any (x lv tk b : Nat) (w : World) :
    Calls Tryd.prog 84 #[.agg #[.int .i64 (kN x : Nat), .int .i64 (cN x : Nat), .int .i64 (lnN x : Nat), .int .i64 (mN x : Nat), .int .u64 (bN x : Nat), .int .u64 (lv : Nat), .int .u64 (tk : Nat)], .int .u64 (b : Nat)] w fun e w' => e = .returned (.agg #[.int .i64 (kN x : Nat), .int .i64 (cN x : Nat), .int .i64 (lnN x : Nat), .int .i64 (mN x : Nat), .int .u64 (bW x b : Nat)]) ∧ Below w.heap.size w w' := by
  by_cases k1 : kN x = 1
  · have f1 : (((kN x : Nat) : Int) == 1) = true := by rw [beq_iff_eq]; omega
    have hb : bW x b = b := by unfold bW; rw [if_pos k1]
    rw [hb]
    clear hb k1
    go_enter Tryd.func84, Tryd.ntmps84
    go_wp2_with fail
    refine bodyPost_ret (v := .agg #[.int .i64 (kN x : Nat), .int .i64 (cN x : Nat), .int .i64 (lnN x : Nat), .int .i64 (mN x : Nat), .int .u64 (b : Nat)]) ?_ rfl ⟨rfl, (((Below.refl _ _).alloc (Nat.le_refl _) _).alloc (by simp) _).alloc (by simp; omega) _⟩
    simp [results, Tryd.f84, go_sem]
  · have f1 : (((kN x : Nat) : Int) == 1) = false := by rw [beq_eq_false_iff_ne]; omega
    have hb : bW x b = bN x := by unfold bW; rw [if_neg k1]
    rw [hb]
    clear hb k1
    go_enter Tryd.func84, Tryd.ntmps84
    go_wp2_with fail
    refine bodyPost_ret (v := .agg #[.int .i64 (kN x : Nat), .int .i64 (cN x : Nat), .int .i64 (lnN x : Nat), .int .i64 (mN x : Nat), .int .u64 (bN x : Nat)]) ?_ rfl ⟨rfl, (((Below.refl _ _).alloc (Nat.le_refl _) _).alloc (by simp) _).alloc (by simp; omega) _⟩
    simp [results, Tryd.f84, go_sem]

theorem or_bd {a b : Nat} (ha : a < 256) (hb : b < 256) : a ||| b < 256 := Nat.or_lt_two_pow (n := 8) ha hb
theorem x7_new (w : World) (x lv tk : Nat) (t : TypeId) : (w.alloc (.cells #[.int .i64 (kN x : Nat), .int .i64 (cN x : Nat), .int .i64 (lnN x : Nat), .int .i64 (mN x : Nat), .int .u64 (bN x : Nat), .int .u64 (lv : Nat), .int .u64 (tk : Nat)] t)).cell? ⟨w.heap.size, 0, none⟩ = some (.int .i64 (kN x : Nat)) ∧ (w.alloc (.cells #[.int .i64 (kN x : Nat), .int .i64 (cN x : Nat), .int .i64 (lnN x : Nat), .int .i64 (mN x : Nat), .int .u64 (bN x : Nat), .int .u64 (lv : Nat), .int .u64 (tk : Nat)] t)).cell? ⟨w.heap.size, 1, none⟩ = some (.int .i64 (cN x : Nat)) ∧ (w.alloc (.cells #[.int .i64 (kN x : Nat), .int .i64 (cN x : Nat), .int .i64 (lnN x : Nat), .int .i64 (mN x : Nat), .int .u64 (bN x : Nat), .int .u64 (lv : Nat), .int .u64 (tk : Nat)] t)).cell? ⟨w.heap.size, 2, none⟩ = some (.int .i64 (lnN x : Nat)) ∧ (w.alloc (.cells #[.int .i64 (kN x : Nat), .int .i64 (cN x : Nat), .int .i64 (lnN x : Nat), .int .i64 (mN x : Nat), .int .u64 (bN x : Nat), .int .u64 (lv : Nat), .int .u64 (tk : Nat)] t)).cell? ⟨w.heap.size, 3, none⟩ = some (.int .i64 (mN x : Nat)) ∧ (w.alloc (.cells #[.int .i64 (kN x : Nat), .int .i64 (cN x : Nat), .int .i64 (lnN x : Nat), .int .i64 (mN x : Nat), .int .u64 (bN x : Nat), .int .u64 (lv : Nat), .int .u64 (tk : Nat)] t)).cell? ⟨w.heap.size, 4, none⟩ = some (.int .u64 (bN x : Nat)) ∧ (w.alloc (.cells #[.int .i64 (kN x : Nat), .int .i64 (cN x : Nat), .int .i64 (lnN x : Nat), .int .i64 (mN x : Nat), .int .u64 (bN x : Nat), .int .u64 (lv : Nat), .int .u64 (tk : Nat)] t)).cell? ⟨w.heap.size, 5, none⟩ = some (.int .u64 (lv : Nat)) ∧ (w.alloc (.cells #[.int .i64 (kN x : Nat), .int .i64 (cN x : Nat), .int .i64 (lnN x : Nat), .int .i64 (mN x : Nat), .int .u64 (bN x : Nat), .int .u64 (lv : Nat), .int .u64 (tk : Nat)] t)).cell? ⟨w.heap.size, 6, none⟩ = some (.int .u64 (tk : Nat)) := by
  refine ⟨?_, ?_, ?_, ?_, ?_, ?_, ?_⟩ <;> simp [go_sem]
/-- the room of a run: its lowest block that is neither live nor taken -/
def roomS (s : St) : Int := if kN s.1 = 1 then roomI (cN s.1 : Nat) (s.2.1 ||| s.2.2) else -1
set_option maxRecDepth 10000 in
set_option maxHeartbeats 1000000 in
theorem roomS_any (x lv tk : Nat) (w : World) (hw : Lw w) (hl : lv < 256) (ht : tk < 256) :
    Calls Tryd.prog 98 #[.agg #[.int .i64 (kN x : Nat), .int .i64 (cN x : Nat), .int .i64 (lnN x : Nat), .int .i64 (mN x : Nat), .int .u64 (bN x : Nat), .int .u64 (lv : Nat), .int .u64 (tk : Nat)]] w fun e w' => e = .returned (.int .i64 (roomS (x, lv, tk))) ∧ Below w.heap.size w w' := by
  have hA := (Below.refl w.heap.size w).alloc (Nat.le_refl _) (.cells #[.int .i64 (kN x : Nat), .int .i64 (cN x : Nat), .int .i64 (lnN x : Nat), .int .i64 (mN x : Nat), .int .u64 (bN x : Nat), .int .u64 (lv : Nat), .int .u64 (tk : Nat)] 99)
  obtain ⟨x0, x1, x2, x3, x4, x5, x6⟩ := x7_new w x lv tk 99
  have hOr := u64_or_nat lv tk (by omega) (by omega)
  have hob := or_bd hl ht
  have hwA := hw.keep hA
  have hWt := with_any x lv tk (lv ||| tk) (w.alloc (.cells #[.int .i64 (kN x : Nat), .int .i64 (cN x : Nat), .int .i64 (lnN x : Nat), .int .i64 (mN x : Nat), .int .u64 (bN x : Nat), .int .u64 (lv : Nat), .int .u64 (tk : Nat)] 99))
  have hRo : ∀ w9, Lw w9 → Calls Tryd.prog 107 #[.agg #[.int .i64 (kN x : Nat), .int .i64 (cN x : Nat), .int .i64 (lnN x : Nat), .int .i64 (mN x : Nat), .int .u64 (bW x (lv ||| tk) : Nat)]] w9 fun e w' => e = .returned (.int .i64 (roomS (x, lv, tk))) ∧ Below w9.heap.size w9 w' := fun w9 h9 => by
    unfold roomS bW
    by_cases k1 : kN x = 1
    · rw [if_pos k1, if_pos k1, show ((kN x : Nat) : Int) = 1 by omega]
      exact room_run (cN x : Nat) (lnN x : Nat) (mN x : Nat) (lv ||| tk) w9 h9 (by omega)
    · rw [if_neg k1, if_neg k1]
      exact room_no (kN x : Nat) (cN x : Nat) (lnN x : Nat) (mN x : Nat) (bN x : Nat) w9 (by omega)
  generalize lv ||| tk = o at *
  generalize roomS (x, lv, tk) = r at *
  replace hRo := Lib.hid hRo
  replace hwA := Lib.hid hwA
  clear hw
  go_enter Tryd.func98, Tryd.ntmps98
  go_wp2_with fail
  refine hWt.mono ?_
  rintro e w2 ⟨rfl, hb2⟩
  have hB2 := hA.trans (hb2.mono hA.size)
  have hR2 := hRo.out _ (hwA.out.keep hb2)
  clear hWt hb2
  go_wp2_with fail
  refine hR2.mono ?_
  rintro e w3 ⟨rfl, hb3⟩
  go_wp2_with fail
  go_ret
  exact ⟨rfl, hB2.trans (hb3.mono hB2.size)⟩
theorem hadS_eq (x lv tk : Nat) : hadS (x, lv, tk) = (decide (kN x = 0) || decide (((kN x : Nat) : Int) = 1 ∧ ((bW x (lv ||| tk) : Nat) : Int) = 0)) := by
  unfold hadS bW
  by_cases k1 : kN x = 1
  · rw [if_pos k1]; first | (simp [k1]; done) | (simp [k1]; omega)
  · rw [if_neg k1]; first | (simp [k1]; done) | (simp [k1]; omega)
set_option maxRecDepth 10000 in
set_option maxHeartbeats 1000000 in
theorem hadS_any (x lv tk : Nat) (w : World) (hl : lv < 256) (ht : tk < 256) :
    Calls Tryd.prog 100 #[.agg #[.int .i64 (kN x : Nat), .int .i64 (cN x : Nat), .int .i64 (lnN x : Nat), .int .i64 (mN x : Nat), .int .u64 (bN x : Nat), .int .u64 (lv : Nat), .int .u64 (tk : Nat)]] w fun e w' => e = .returned (.bool (hadS (x, lv, tk))) ∧ Below w.heap.size w w' := by
  have hA := (Below.refl w.heap.size w).alloc (Nat.le_refl _) (.cells #[.int .i64 (kN x : Nat), .int .i64 (cN x : Nat), .int .i64 (lnN x : Nat), .int .i64 (mN x : Nat), .int .u64 (bN x : Nat), .int .u64 (lv : Nat), .int .u64 (tk : Nat)] 99)
  obtain ⟨x0, x1, x2, x3, x4, x5, x6⟩ := x7_new w x lv tk 99
  have hOr := u64_or_nat lv tk (by omega) (by omega)
  have hWt := with_any x lv tk (lv ||| tk) (w.alloc (.cells #[.int .i64 (kN x : Nat), .int .i64 (cN x : Nat), .int .i64 (lnN x : Nat), .int .i64 (mN x : Nat), .int .u64 (bN x : Nat), .int .u64 (lv : Nat), .int .u64 (tk : Nat)] 99))
  have hh := hadS_eq x lv tk
  have hEm := Lib.hid (fun w => empty_any (kN x : Nat) (cN x : Nat) (lnN x : Nat) (mN x : Nat) (bW x (lv ||| tk) : Nat) w)
  generalize lv ||| tk = o at *
  generalize hadS (x, lv, tk) = r at *
  by_cases k0 : kN x = 0
  · have f0 : (((kN x : Nat) : Int) == 0) = true := by rw [beq_iff_eq]; omega
    rw [decide_eq_true k0, Bool.true_or] at hh
    subst hh
    clear k0
    go_enter Tryd.func100, Tryd.ntmps100
    go_wp2_with fail
    go_ret
    exact ⟨rfl, hA⟩
  · have f0 : (((kN x : Nat) : Int) == 0) = false := by rw [beq_eq_false_iff_ne]; omega
    rw [decide_eq_false k0, Bool.false_or] at hh
    rw [← hh] at hEm
    replace hh := Lib.hid hh
    clear k0
    go_enter Tryd.func100, Tryd.ntmps100
    go_wp2_with fail
    refine hWt.mono ?_
    rintro e w2 ⟨rfl, hb2⟩
    have hB2 := hA.trans (hb2.mono hA.size)
    clear hWt hb2
    go_wp2_with fail
    refine (hEm.out _).mono ?_
    rintro e w3 ⟨rfl, hb3⟩
    go_wp2_with fail
    go_ret
    exact ⟨rfl, hB2.trans (hb3.mono hB2.size)⟩
end Go.Proofs.YtnjifmecaeagaaaDoor
end
