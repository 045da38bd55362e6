/-
  The laws of package tx: TxOwn.
-/
import Derived.Test.YtcemiclbeocnjaaTk20
set_option linter.unusedVariables false
set_option linter.unusedSimpArgs false
namespace Go.Proofs.Ytcemiclbeocnjaa
open Go.RowKit Go.ChangeShapes Go.WideShapes Go.Deep Go.Maps
attribute [local irreducible] wpList

theorem BothN.other {w0 w w' : World} {B B2 : Nat} {F G S : Nat → Prop} {s : St} {r : Rf} (h : BothN w0 w B F s B2 G r) (hc : Chg S w w') (hF : ∀ k, F k → ¬ S k) (hG : ∀ k, G k → ¬ S k) (hl : ∀ k, S k → w0.heap.size ≤ k) : BothN w0 w' B F s B2 G r :=
  ⟨⟨h.tx.tx.chg hc hF, h.tx.low, h.tx.bel.trans (hc.below hl h.tx.bel.size)⟩, h.rf.chg hc hG, h.low, h.ap⟩
/-- a block of N cells at least -/
def RoomAt (w : World) (g : Nat) (t : TypeId) (N : Nat) : Prop := ∃ cur, w.heap[g]? = some (.cells cur t (0, 0)) ∧ N ≤ cur.size
theorem RoomAt.cell {w : World} {g N : Nat} {t : TypeId} (h : RoomAt w g t N) {o : Nat} (ho : o < N) : ∃ u, w.cell? ⟨g, o, none⟩ = some u ∧ w.frozen? ⟨g, o, none⟩ = false := by
  obtain ⟨cur, h1, h2⟩ := h
  exact ⟨cur[o]'(by omega), cell_blk h1 (by rw [Array.getElem?_eq_getElem (by omega)])⟩
theorem RoomAt.set {w : World} {g N : Nat} {t : TypeId} (h : RoomAt w g t N) (o : Nat) (v : Value) : RoomAt (w.setCell ⟨g, o, none⟩ v) g t N := by
  obtain ⟨cur, h1, h2⟩ := h
  exact ⟨_, set_blk h1, by simpa using h2⟩
theorem RoomAt.keep {w w' : World} {g N : Nat} {t : TypeId} (h : RoomAt w g t N) (hb : Below w.heap.size w w') : RoomAt w' g t N := by
  obtain ⟨cur, h1, h2⟩ := h
  exact ⟨cur, (hb.block g (Array.getElem?_eq_some_iff.1 h1).1).trans h1, h2⟩
theorem OwnE.room {α : Type} {e : TypeId} {sz : Nat} {en : α → List Value} {w : World} {base m : Nat} {v : Value} {l : List α} (h : OwnE e sz en w base v l) (hm : l.length = m) : ∃ A cap, v = .slice A m cap ∧ (0 < m → ∃ g, A = some ⟨g, 0, none⟩ ∧ base ≤ g ∧ RoomAt w g e (m * sz)) := by
  subst hm
  rcases h.2 with ⟨rfl, h0⟩ | ⟨g, cap, cur, rfl, hb, hg, h1, h2, h3, h4⟩
  · exact ⟨none, 0, by rw [h0], fun q => by omega⟩
  · exact ⟨_, _, rfl, fun _ => ⟨g, rfl, hb, cur, hg, by rw [h3]; exact Nat.mul_le_mul_right _ h1⟩⟩
theorem own_other {α : Type} {e t : TypeId} {sz N g : Nat} {en : α → List Value} {w w' : World} {base : Nat} {v : Value} {l : List α} (h : OwnE e sz en w base v l) (hr : RoomAt w g t N) (hne : t ≠ e) (hc : Chg (fun k => k = g) w w') : OwnE e sz en w' base v l := by
  obtain ⟨cur, h1, _⟩ := hr
  exact h.chg hc (row_ne h h1 hne)
theorem setsChg {g : Nat} {w w' : World} (h : Chg (fun k => k = g) w w') (o : Nat) (v : Value) : Chg (fun k => k = g) w (w'.setCell ⟨g, o, none⟩ v) := h.trans (Chg.setCell (S := fun k => k = g) w' g o v rfl) (fun j q => .inl q)

set_option maxRecDepth 10000 in
set_option maxHeartbeats 8000000 in
theorem txOwn (v : Value) (l : List Ox) (w : World) (hl : OL l) (hv : OPL w v l) :
    Calls Try.prog 9 #[v] w fun e w' => e = .returned (.bool true) ∧ Below w.heap.size w w' := by
  obtain ⟨n, hn⟩ : ∃ n, l.length = n := ⟨_, rfl⟩
  have hAw := awake_any w
  have hFw := Lib.hid (fun (w1 : World) (hb : Below w.heap.size w w1) => few_any v l w1 hl (hv.keep hb))
  obtain ⟨A, cap, rfl, hC⟩ := EL.form hv hn
  replace hC := Lib.hid hC
  have hn9 : n ≤ 9223372036854775807 := by have := hl.1; omega
  have hnn := Lib.hid hn
  clear hv hl hn
  go_enter Try.func9, Try.ntmps9
  go_wp2_with (first
    | (go_at_call 29; refine hAw.mono ?_; rintro e w1 ⟨rfl, hb1⟩
       have hF1 := hFw.out w1 hb1
       clear hAw)
    | (go_at_call 30; refine hF1.mono ?_; rintro e w2 ⟨⟨t, rfl, ht⟩, hb2⟩
       have hb2w := hb1.trans (hb2.mono hb1.size)
       replace ht := Lib.hid ht
       clear hF1
       cases t)
    | (go_at_call 31; refine (new_N w2).mono ?_; rintro e w3 ⟨B, F, rfl, T0⟩))
  · go_ret
    exact ⟨rfl, hb2w⟩
  have hsz2 := hb2w.size
  have hFL := Lib.hid (ht.out (by first | trivial | rfl))
  have hD0 := start_both T0
  obtain ⟨B2, hB2e⟩ : ∃ B2, w3.heap.size = B2 := ⟨_, rfl⟩
  rw [hB2e] at hD0 ⊢
  have hn40 : n ≤ 40 := by have := hFL.out.2; have := hnn.out; omega
  clear T0 hB2e ht hFw
  go_loopw [7] (fun i wr => ∃ k : Nat, k ≤ n ∧ i = .int .i64 k ∧ DoP w2 B B2 k wr) (fun i _ => n + 1 - (intOf i).toNat)
  case atStart => exact ⟨0, Nat.zero_le _, rfl, hD0⟩
  case round =>
    clear hD0
    obtain ⟨k, hk, rfl, hD⟩ := hrel
    have hB := hb2w.trans (hD.bel.mono hsz2)
    by_cases hlt : k < n
    · obtain ⟨g, off, rfl, hcap, _, hg, hcl⟩ := hC.out wr k hB hlt
      have hlt' : (k : Int) < (n : Int) := by omega
      have hfo := fewO_at hFL.out (k := k) (by have := hnn.out; omega)
      generalize l.getD k default = o at *
      have hDo := do_any o hD (by omega) hfo
      obtain ⟨kd, ⟨fr, mn⟩, ⟨a1, a2, a3, a4, a5⟩, at_, a7, sz, a9⟩ := o
      have c0 : wr.cell? ⟨g, off + k * 12, none⟩ = some (.int .u8 (kd : Nat)) := hcl 0 (by omega)
      have c1 : wr.cell? ⟨g, off + k * 12 + 1, none⟩ = some (.int .i64 fr) := hcl 1 (by omega)
      have c2 : wr.cell? ⟨g, off + k * 12 + 2, none⟩ = some (.int .i64 mn) := hcl 2 (by omega)
      have c3 : wr.cell? ⟨g, off + k * 12 + 3, none⟩ = some (.int .i64 a1) := hcl 3 (by omega)
      have c4 : wr.cell? ⟨g, off + k * 12 + 4, none⟩ = some (.int .i64 a2) := hcl 4 (by omega)
      have c5 : wr.cell? ⟨g, off + k * 12 + 5, none⟩ = some (.int .i64 a3) := hcl 5 (by omega)
      have c6 : wr.cell? ⟨g, off + k * 12 + 6, none⟩ = some (.int .i64 a4) := hcl 6 (by omega)
      have c7 : wr.cell? ⟨g, off + k * 12 + 7, none⟩ = some (.bool a5) := hcl 7 (by omega)
      have c8 : wr.cell? ⟨g, off + k * 12 + 8, none⟩ = some (.int .i64 at_) := hcl 8 (by omega)
      have c9 : wr.cell? ⟨g, off + k * 12 + 9, none⟩ = some (.int .i64 a7) := hcl 9 (by omega)
      have c10 : wr.cell? ⟨g, off + k * 12 + 10, none⟩ = some (.int .i64 sz) := hcl 10 (by omega)
      have c11 : wr.cell? ⟨g, off + k * 12 + 11, none⟩ = some (.int .u64 a9) := hcl 11 (by omega)
      simp only [oE, fE] at hDo
      clear hcl hfo
      go_wp2_with (go_at_call 32; refine hDo.mono ?_; rintro e w4 ⟨rfl, hD4⟩; clear hDo)
      go_roundw
      case rel => exact ⟨k + 1, by omega, by go_num, hD4⟩
      case measure => simp [intOf]; omega
    · obtain rfl : k = n := by omega
      obtain ⟨F1, s, G, r, hbn, hr⟩ := hD
      have hNl := hr.ok.len
      have hn1 := hr.n
      have hgl := hr.gl
      have hlF := Lib.hid hbn.tx.tx.lt
      have hlG := Lib.hid hbn.rf.lt
      have hlo := hbn.tx.bel.size
      obtain ⟨bs, hbs⟩ : ∃ bs, wr.heap.size = bs := ⟨_, rfl⟩
      rw [hbs] at hlF hlG hlo
      have hNo := Noted_any B F1 s wr hbn.tx.tx (by omega)
      have hrh := Lib.hid hr
      have hbh := Lib.hid hbn
      clear hC hr hbn
      go_wp2_with (first
        | (go_at_call 38; refine hNo.mono ?_; rintro e w5 ⟨vA, rfl, oA, hb5⟩
           have hAl := All_any B F1 s w5 (hbh.out.keep hb5).tx.tx (by omega)
           clear hNo)
        | (go_at_call 42; refine hAl.mono ?_; rintro e w6 ⟨vB, rfl, oB, _, hmB, hb6⟩
           have hb6w := hb5.trans (hb6.mono hb5.size)
           have hGo := Gone_any B F1 s w6 (hbh.out.keep hb6w).tx.tx (by omega)
           clear hAl)
        | (go_at_call 43; refine hGo.mono ?_; rintro e w7 ⟨vC, rfl, oC, hb7⟩
           clear hGo))
      have hb7w := hb6w.trans (hb7.mono hb6w.size)
      have hb57 := hb6.trans (hb7.mono hb6.size)
      have hbn := hbh.out.keep hb7w
      obtain ⟨mA, hmA⟩ : ∃ m, s.noted.length = m := ⟨_, rfl⟩
      obtain ⟨mB, hmBq⟩ : ∃ m, (madeL s.fresh).length = m := ⟨_, rfl⟩
      obtain ⟨mC, hmC⟩ : ∃ m, s.gone.length = m := ⟨_, rfl⟩
      have hA9 : mA ≤ 300 := by omega
      have hB9 : mB ≤ 40 := by omega
      have hC9 : mC ≤ 40 := by omega
      have hs5 := hb5.size
      have hs6 := hb6.size
      have oA7 := (ownSp_iff.1 oA).keep hb57
      have oB7 := oB.keep hb7
      obtain ⟨AA, capA, rfl, hgA⟩ := oA7.room hmA
      obtain ⟨AB, capB, rfl, _⟩ := oB7.room hmBq
      obtain ⟨AC, capC, rfl, _⟩ := oC.room hmC
      have hgA2 := Lib.hid hgA
      have hb7h := Lib.hid hb7w
      clear oA oB hb5 hb6 hb7 hb6w hb57 hgA hbh hb7w
      go_wp2_with fail
      go_loopw [11] (fun i wq => ∃ j : Nat, j ≤ mA ∧ i = .int .i64 j ∧ BothN w2 wq B F1 s B2 G r ∧ (∀ g, AA = some ⟨g, 0, none⟩ → bs ≤ g → RoomAt wq g 63 (mA * 2)) ∧ OwnE 69 9 fE wq w5.heap.size (.slice AB mB capB) (madeL s.fresh) ∧ OwnE 3 1 iE wq w6.heap.size (.slice AC mC capC) s.gone) (fun i _ => mA + 1 - (intOf i).toNat)
      case atStart => exact ⟨0, Nat.zero_le _, rfl, hbn, fun g e hg => (by
        rcases oA7.2 with ⟨q, h0⟩ | ⟨g', cap', cur', q, _, hg', h1, _, h3, _⟩
        · cases q; cases e
        · cases q; cases e; exact ⟨cur', hg', by rw [h3]; rw [hmA] at h1; exact Nat.mul_le_mul_right _ h1⟩), oB7, oC⟩
      case round =>
        clear hbn oB7 oC oA7
        obtain ⟨j, hj, rfl, hbn, hrm, hoB, hoC⟩ := hrel
        by_cases hlt2 : j < mA
        · obtain ⟨g, rfl, hgl2, _⟩ := hgA2.out (by omega)
          have hR := hrm g rfl (by omega)
          obtain ⟨u0, e0, z0⟩ := hR.cell (o := j * 2) (by omega)
          obtain ⟨u1, e1, z1⟩ := hR.cell (o := j * 2 + 1) (by omega)
          have hc := setsChg (setsChg (Chg.refl (fun k => k = g) wr) (j * 2) (.int .i64 0)) (j * 2 + 1) (.int .i64 0)
          have hbn2 := Lib.hid (hbn.other hc (fun q f e => by have := hlF.out q f; omega) (fun q f e => by have := hlG.out q f; omega) (fun q e => by omega))
          have hR2 := Lib.hid ((hR.set (j * 2) (.int .i64 0)).set (j * 2 + 1) (.int .i64 0))
          have hoB2 := Lib.hid (own_other hoB hR (by decide) hc)
          have hoC2 := Lib.hid (own_other hoC hR (by decide) hc)
          have hlt3 : (j : Int) < (mA : Int) := by omega
          clear hbn hrm hoB hoC hR hc
          go_wp2_with fail
          go_roundw
          case rel => exact ⟨j + 1, by omega, by go_num, hbn2.out, (fun g' e' _ => by cases e'; exact hR2.out), hoB2.out, hoC2.out⟩
          case measure => simp [intOf]; omega
        · obtain rfl : j = mA := by omega
          clear hrm
          have hgB := Lib.hid (hoB.room hmBq)
          go_wp2_with fail
          go_loopw [12] (fun i wp => ∃ j : Nat, j ≤ mB ∧ i = .int .i64 j ∧ BothN w2 wp B F1 s B2 G r ∧ (∀ g, AB = some ⟨g, 0, none⟩ → bs ≤ g → RoomAt wp g 69 (mB * 9)) ∧ OwnE 3 1 iE wp w6.heap.size (.slice AC mC capC) s.gone) (fun i _ => mB + 1 - (intOf i).toNat)
          case atStart => exact ⟨0, Nat.zero_le _, rfl, hbn, fun g e hg => (by
            rcases hoB.2 with ⟨q, h0⟩ | ⟨g', cap', cur', q, _, hg', h1, _, h3, _⟩
            · cases q; cases e
            · cases q; cases e; exact ⟨cur', hg', by rw [h3]; rw [hmBq] at h1; exact Nat.mul_le_mul_right _ h1⟩), hoC⟩
          case round =>
            clear hbn hoB hoC
            obtain ⟨i, hi, rfl, hbn, hrm, hoC⟩ := hrel
            by_cases hlt2 : i < mB
            · obtain ⟨A9, cap9, e9, hq9⟩ := hgB.out
              cases e9
              obtain ⟨g, rfl, hgl2, _⟩ := hq9 (by omega)
              have hR := hrm g rfl (by omega)
              obtain ⟨u0, e0, z0⟩ := hR.cell (o := i * 9) (by omega)
              obtain ⟨u1, e1, z1⟩ := hR.cell (o := i * 9 + 1) (by omega)
              obtain ⟨u2, e2, z2⟩ := hR.cell (o := i * 9 + 2) (by omega)
              obtain ⟨u3, e3, z3⟩ := hR.cell (o := i * 9 + 3) (by omega)
              obtain ⟨u4, e4, z4⟩ := hR.cell (o := i * 9 + 4) (by omega)
              obtain ⟨u5, e5, z5⟩ := hR.cell (o := i * 9 + 5) (by omega)
              obtain ⟨u6, e6, z6⟩ := hR.cell (o := i * 9 + 6) (by omega)
              obtain ⟨u7, e7, z7⟩ := hR.cell (o := i * 9 + 7) (by omega)
              obtain ⟨u8, e8, z8⟩ := hR.cell (o := i * 9 + 8) (by omega)
              have hc := setsChg (setsChg (setsChg (setsChg (setsChg (setsChg (setsChg (setsChg (setsChg (Chg.refl (fun k => k = g) wr) (i * 9) (.int .i64 0)) (i * 9 + 1) (.int .i64 0)) (i * 9 + 2) (.int .i64 0)) (i * 9 + 3) (.int .i64 0)) (i * 9 + 4) (.bool false)) (i * 9 + 5) (.int .i64 0)) (i * 9 + 6) (.int .i64 0)) (i * 9 + 7) (.int .i64 0)) (i * 9 + 8) (.int .u64 0)
              have hbn2 := Lib.hid (hbn.other hc (fun q f e => by have := hlF.out q f; omega) (fun q f e => by have := hlG.out q f; omega) (fun q e => by omega))
              have hR2 := Lib.hid (((((((((hR.set (i * 9) (.int .i64 0)).set (i * 9 + 1) (.int .i64 0)).set (i * 9 + 2) (.int .i64 0)).set (i * 9 + 3) (.int .i64 0)).set (i * 9 + 4) (.bool false)).set (i * 9 + 5) (.int .i64 0)).set (i * 9 + 6) (.int .i64 0)).set (i * 9 + 7) (.int .i64 0)).set (i * 9 + 8) (.int .u64 0))
              have hoC2 := Lib.hid (own_other hoC hR (by decide) hc)
              have hlt3 : (i : Int) < (mB : Int) := by omega
              clear hbn hrm hoC hR hc hq9 hgB
              go_wp2_with fail
              go_roundw
              case rel => exact ⟨i + 1, by omega, by go_num, hbn2.out, (fun g' e' _ => by cases e'; exact hR2.out), hoC2.out⟩
              case measure => simp [intOf]; omega
            · obtain rfl : i = mB := by omega
              clear hrm
              have hgC := Lib.hid (hoC.room hmC)
              go_wp2_with fail
              go_loopw [13] (fun q wp => ∃ j : Nat, j ≤ mC ∧ q = .int .i64 j ∧ BothN w2 wp B F1 s B2 G r ∧ (∀ g, AC = some ⟨g, 0, none⟩ → bs ≤ g → RoomAt wp g 3 (mC * 1))) (fun q _ => mC + 1 - (intOf q).toNat)
              case atStart => exact ⟨0, Nat.zero_le _, rfl, hbn, fun g e hg => (by
                rcases hoC.2 with ⟨q, h0⟩ | ⟨g', cap', cur', q, _, hg', h1, _, h3, _⟩
                · cases q; cases e
                · cases q; cases e; exact ⟨cur', hg', by rw [h3]; rw [hmC] at h1; exact Nat.mul_le_mul_right _ h1⟩)⟩
              case round =>
                clear hbn hoC
                obtain ⟨q, hq, rfl, hbn, hrm⟩ := hrel
                by_cases hlt2 : q < mC
                · obtain ⟨A9, cap9, e9, hq9⟩ := hgC.out
                  cases e9
                  obtain ⟨g, rfl, hgl2, _⟩ := hq9 (by omega)
                  have hR := hrm g rfl (by omega)
                  obtain ⟨u0, e0, z0⟩ := hR.cell (o := q) (by omega)
                  have hc := Chg.setCell (S := fun k => k = g) wr g q (.int .i64 (-1)) rfl
                  have hbn2 := Lib.hid (hbn.other hc (fun q f e => by have := hlF.out q f; omega) (fun q f e => by have := hlG.out q f; omega) (fun q e => by omega))
                  have hR2 := Lib.hid (hR.set q (.int .i64 (-1)))
                  have hlt3 : (q : Int) < (mC : Int) := by omega
                  clear hbn hrm hR hc hq9 hgC
                  go_wp2_with fail
                  go_roundw
                  case rel => exact ⟨q + 1, by omega, by go_num, hbn2.out, (fun g' e' _ => by cases e'; exact hR2.out)⟩
                  case measure => simp [intOf]; omega
                · obtain rfl : q = mC := by omega
                  have hSm := sameB_any (k := k) 0 ⟨F1, s, G, r, hbn, hrh.out⟩ (by omega) ⟨by omega, by omega⟩
                  have hbE := Lib.hid (hb2w.trans (hbn.tx.bel.mono hsz2))
                  clear hrm hbn
                  go_wp2_with (go_at_call 33; refine hSm.mono ?_; rintro e w9 ⟨rfl, hb9⟩; clear hSm)
                  go_ret
                  exact ⟨rfl, hbE.out.trans (hb9.mono hbE.out.size)⟩
end Go.Proofs.Ytcemiclbeocnjaa
