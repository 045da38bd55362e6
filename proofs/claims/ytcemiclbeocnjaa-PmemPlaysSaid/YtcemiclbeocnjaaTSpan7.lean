/-
  What the document's calls for spans answer: Of.
-/
import Derived.Test.YtcemiclbeocnjaaTSpan6
set_option linter.unusedVariables false
set_option linter.unusedSimpArgs false
namespace Go.Proofs.Ytcemiclbeocnjaa
open Go.RowKit

theorem OwnSp.bump {w : World} {base g cap m : Nat} {L : List Sp} {x : Sp} (h : OwnSp w base (.slice (some ⟨g, 0, none⟩) (m + 1) cap) (L ++ [x])) (hm : L.length = m) :
    OwnSp (w.setCell ⟨g, m * 2 + 1, none⟩ (.int .i64 (x.2 + 1))) base (.slice (some ⟨g, 0, none⟩) (m + 1) cap) (L ++ [(x.1, x.2 + 1)]) ∧ w.cell? ⟨g, m * 2 + 1, none⟩ = some (.int .i64 x.2) ∧ w.frozen? ⟨g, m * 2 + 1, none⟩ = false ∧ base ≤ g := by
  unfold OwnSp at h
  have hl : (L ++ [x]).length = m + 1 := by simp [hm]
  have hl2 : (L ++ [(x.1, x.2 + 1)]).length = m + 1 := by simp [hm]
  rw [hl] at h
  have hst := (h.stored (m * 2 + 1) (.int .i64 (x.2 + 1))).1
  refine ⟨?_, ?_, h.frozenAt _, (h.lt g rfl).1⟩
  · unfold OwnSp
    rw [hl2]
    have e : (spv (L ++ [x])).set (m * 2 + 1) (.int .i64 (x.2 + 1)) = spv (L ++ [(x.1, x.2 + 1)]) := by
      rw [spv_app, spv_app, List.set_append_right _ _ (by rw [spv_len]; omega), spv_len, hm, show m * 2 + 1 - m * 2 = 1 by omega]
      rfl
    rw [← e]
    exact hst
  · rw [h.cellAt _ (by omega), spv_app, List.getElem?_append_right (by rw [spv_len]; omega), spv_len, hm, show m * 2 + 1 - m * 2 = 1 by omega]
    rfl
def ofP (b : Bool) (l : List Sp) (s : Sp) (x : Int) : Bool := match b with
  | true => inB s x && !hasB l x
  | false => hasB l x || inB s x
def ofL (low : Int) (n : Nat) (l : List Sp) (s : Sp) (b : Bool) : List Sp := (ofN (ofP b l s) low n).l
theorem ofN_len (p : Int → Bool) (low : Int) : ∀ n : Nat, (ofN p low n).l.length ≤ n
  | 0 => Nat.le_refl _
  | n + 1 => by
    have h := ofN_len p low n
    show (ofF p (ofN p low n) (low + n)).l.length ≤ n + 1
    obtain ⟨_, _, ho, _, _⟩ := ofN_inv p low n
    generalize ofN p low n = t at *
    unfold ofF
    simp only []
    split
    · split
      · obtain ⟨o, x, e, _⟩ := ho (by assumption)
        rw [e] at h ⊢
        rw [bump_snoc]; simp at h ⊢; omega
      · simp; omega
    · omega

set_option maxRecDepth 10000 in
set_option maxHeartbeats 8000000 in
theorem of_false (low : Int) (N : Nat) (v : Value) (l : List Sp) (s : Sp) (w : World) (h1 : -1000000 ≤ low) (h2 : low + N ≤ 1000000) (hN : N ≤ 100000) (hl : SBs l) (hlen : l.length ≤ 1000) (hs : SB s) (hv : PL w v l) :
    Calls Try.prog 92 #[.int .i64 low, .int .i64 (low + N), v, .agg #[.int .i64 s.1, .int .i64 s.2], .int .i64 0] w fun e w' => ∃ v', e = .returned v' ∧ OwnSp w' w.heap.size v' (ofL low N l s false) ∧ Below w.heap.size w w' := by
  have hH := Lib.hid (fun (w1 : World) (hb : Below w.heap.size w w1) x h1 h2 => has_any v l x w1 hl hlen (hv.keep hb) h1 h2)
  have hI := Lib.hid (fun (w1 : World) x h1 h2 => in_any s.1 s.2 x w1 hs h1 h2)
  have hstep := Lib.hid (fun k => show ofN (ofP false l s) low (k + 1) = ofF (ofP false l s) (ofN (ofP false l s) low k) (low + k) from rfl)
  have hinv := Lib.hid (fun k => ofN_inv (ofP false l s) low k)
  have hlen2 := Lib.hid (fun k => ofN_len (ofP false l s) low k)
  have hE := Lib.hid (show (ofN (ofP false l s) low N).l = ofL low N l s false from rfl)
  have hP := Lib.hid (fun x => show ofP false l s x = (hasB l x || inB s x) from rfl)
  have hR0 : OwnSp (w.alloc (.cells #[.int .i64 s.1, .int .i64 s.2] (63 : Nat))) (w.heap.size + 1) (.slice none 0 0) [] := OwnSp.nil _ _
  have kk := C2.new w (.int .i64 s.1) (.int .i64 s.2) (63 : Nat)
  have hB0 : Below w.heap.size w (w.alloc (.cells #[.int .i64 s.1, .int .i64 s.2] (63 : Nat))) := (Below.refl _ _).alloc (Nat.le_refl _) _
  clear hl hlen hv
  go_enter Try.func92, Try.ntmps92
  go_wp2_with fail
  go_loopw [11, 12, 13] (fun u o x wr => ∃ (k : Nat) (t : OfSt), k ≤ N ∧ x = .int .i64 (low + k) ∧ o = .bool t.o ∧ Hid (t = ofN (ofP false l s) low k) ∧ OwnSp wr (w.heap.size + 1) u t.l ∧ C2 wr w.heap.size (.int .i64 s.1) (.int .i64 s.2) ∧ Below w.heap.size w wr) (fun _ _ x _ => (low + N + 1 - intOf x).toNat)
  case atStart => exact ⟨0, ⟨[], false⟩, Nat.zero_le _, by simp, rfl, rfl, hR0, kk, hB0⟩
  case round =>
    obtain ⟨k, t, hk, rfl, rfl, hT, hown, hc, hB⟩ := hrel
    clear hR0 kk hB0
    by_cases hlt : k < N
    · have hlt' : low + (k : Int) < low + (N : Int) := by omega
      have g1 : -1000000 ≤ low + (k : Int) := by omega
      have g2 : low + (k : Int) ≤ 1000000 := by omega
      have hT1 := Lib.hid (show ofF (ofP false l s) t (low + k) = ofN (ofP false l s) low (k + 1) from by rw [hstep.out, ← hT.out])
      have hxx : low + (k : Int) + 1 = low + ((k + 1 : Nat) : Int) := by omega
      replace hxx := Lib.hid hxx
      have hlen3 := hlen2.out k
      rw [← hT.out] at hlen3
      obtain ⟨iR, _, iO, _, iL⟩ := hinv.out k
      rw [← hT.out] at iO iL iR
      replace iR := Lib.hid iR
      replace iO := Lib.hid iO
      replace iL := Lib.hid iL
      have hPx := hP.out (low + k)
      generalize hxv : low + (k : Int) = x at *
      replace hxv := Lib.hid hxv
      have hH1 := Lib.hid (hH.out wr hB x (by omega) (by omega))
      have hI1 := Lib.hid (fun w1 => hI.out w1 x (by omega) (by omega))
      obtain ⟨to, ht⟩ : ∃ to, to = t.o := ⟨_, rfl⟩
      obtain ⟨tl, htl⟩ : ∃ tl, tl = t.l := ⟨_, rfl⟩
      rw [← htl] at hown hlen3 iO iL iR
      rw [← ht] at iO ⊢
      have hT2 := Lib.hid (show (if ofP false l s x then (if to then bump tl else tl ++ [(x, 1)]) else tl) = (ofN (ofP false l s) low (k + 1)).l ∧ ofP false l s x = (ofN (ofP false l s) low (k + 1)).o from by rw [← hT1.out, ht, htl]; exact ⟨rfl, rfl⟩)
      clear hT1 hT ht htl
      obtain ⟨T, hTT⟩ : ∃ T, T = ofN (ofP false l s) low (k + 1) := ⟨_, rfl⟩
      rw [← hTT] at hT2
      replace hTT := Lib.hid hTT
      rw [hPx] at hT2
      clear hPx
      generalize hasB l x = hb at *
      have hib : inB (s.1, s.2) x = inB s x := rfl
      rw [hib] at hI1
      clear hib
      generalize inB s x = ib at *
      cases hb <;> cases ib <;> cases to
      · -- has false, in false, open false
        obtain ⟨e1, e2⟩ := hT2.out
        simp only [Bool.not_true, Bool.not_false, Bool.and_true, Bool.and_false, Bool.or_true, Bool.or_false, Bool.false_eq_true, if_true, if_false] at e1 e2
        replace e1 := Lib.hid e1
        replace e2 := Lib.hid e2
        clear hT2
        go_wp2_with fail
        refine hH1.out.mono ?_
        rintro e w2 ⟨rfl, hb2⟩
        have hc2 := hc.keep hb2
        have hown2 := hown.keep hb2
        have hB2 := hB.trans (hb2.mono hB.size)
        obtain ⟨c0, c1⟩ := id hc2
        clear hb2 hc hown hB
        go_wp2_with fail
        refine (hI1.out _).mono ?_
        rintro e w3 ⟨rfl, hb3⟩
        have hc3 := hc2.keep hb3
        have hown3 := hown2.keep hb3
        have hB3 := hB2.trans (hb3.mono hB2.size)
        clear hb3 hc2 hown2 hB2 c0 c1
        go_wp2_with fail
        go_roundw
        case rel => exact ⟨k + 1, T, by omega, by first | (rw [← hxx.out]) | (rw [hxx.out]), by rw [← e2.out], hTT, by rw [← e1.out]; exact hown3, hc3, hB3⟩
        case measure => simp [intOf]; omega
      · -- has false, in false, open true
        obtain ⟨e1, e2⟩ := hT2.out
        simp only [Bool.not_true, Bool.not_false, Bool.and_true, Bool.and_false, Bool.or_true, Bool.or_false, Bool.false_eq_true, if_true, if_false] at e1 e2
        replace e1 := Lib.hid e1
        replace e2 := Lib.hid e2
        clear hT2
        go_wp2_with fail
        refine hH1.out.mono ?_
        rintro e w2 ⟨rfl, hb2⟩
        have hc2 := hc.keep hb2
        have hown2 := hown.keep hb2
        have hB2 := hB.trans (hb2.mono hB.size)
        obtain ⟨c0, c1⟩ := id hc2
        clear hb2 hc hown hB
        go_wp2_with fail
        refine (hI1.out _).mono ?_
        rintro e w3 ⟨rfl, hb3⟩
        have hc3 := hc2.keep hb3
        have hown3 := hown2.keep hb3
        have hB3 := hB2.trans (hb3.mono hB2.size)
        clear hb3 hc2 hown2 hB2 c0 c1
        go_wp2_with fail
        go_roundw
        case rel => exact ⟨k + 1, T, by omega, by first | (rw [← hxx.out]) | (rw [hxx.out]), by rw [← e2.out], hTT, by rw [← e1.out]; exact hown3, hc3, hB3⟩
        case measure => simp [intOf]; omega
      · -- has false, in true, open false
        obtain ⟨e1, e2⟩ := hT2.out
        simp only [Bool.not_true, Bool.not_false, Bool.and_true, Bool.and_false, Bool.or_true, Bool.or_false, Bool.false_eq_true, if_true, if_false] at e1 e2
        replace e1 := Lib.hid e1
        replace e2 := Lib.hid e2
        clear hT2
        go_wp2_with fail
        refine hH1.out.mono ?_
        rintro e w2 ⟨rfl, hb2⟩
        have hc2 := hc.keep hb2
        have hown2 := hown.keep hb2
        have hB2 := hB.trans (hb2.mono hB.size)
        obtain ⟨c0, c1⟩ := id hc2
        clear hb2 hc hown hB
        go_wp2_with fail
        refine (hI1.out _).mono ?_
        rintro e w3 ⟨rfl, hb3⟩
        have hc3 := hc2.keep hb3
        have hown3 := hown2.keep hb3
        have hB3 := hB2.trans (hb3.mono hB2.size)
        clear hb3 hc2 hown2 hB2 c0 c1
        obtain ⟨v', w4, hrun, ho, hg2, hl2⟩ := app1 (w := w3.alloc (.cells #[.int .i64 x, .int .i64 1] (63 : Nat))) (l := tl) (s := (x, 1)) (base := w.heap.size + 1) (hown3.keep ((Below.refl _ _).alloc (Nat.le_refl _) _)) (C2.new w3 (.int .i64 x) (.int .i64 1) (63 : Nat)) (by have := hc3.lt; simp; omega) (by omega)
        have hB4 : Below w.heap.size w w4 := (hB3.alloc hB3.size _).grown hg2 (by have := hB3.size; simp; omega) (fun j hj => by have := (hown3.lt _ hj).1; omega)
        have hcn := grown_c2 (hc3.alloc (.cells #[.int .i64 x, .int .i64 1] (63 : Nat))) hg2 (fun e => by have := (hown3.lt _ e.symm).1; omega)
        clear hg2 hl2 hown3 hc3 hB3
        go_wp2_with (at_builtin; refine wpList_append_run rfl _ _ 57 rfl _ _ _ rfl rfl hrun ?_)
        clear hrun
        go_wp2_with fail
        go_roundw
        case rel => exact ⟨k + 1, T, by omega, by first | (rw [← hxx.out]) | (rw [hxx.out]), by rw [← e2.out], hTT, by rw [← e1.out]; exact ho, hcn, hB4⟩
        case measure => simp [intOf]; omega
      · -- has false, in true, open true
        obtain ⟨e1, e2⟩ := hT2.out
        simp only [Bool.not_true, Bool.not_false, Bool.and_true, Bool.and_false, Bool.or_true, Bool.or_false, Bool.false_eq_true, if_true, if_false] at e1 e2
        replace e1 := Lib.hid e1
        replace e2 := Lib.hid e2
        clear hT2
        go_wp2_with fail
        refine hH1.out.mono ?_
        rintro e w2 ⟨rfl, hb2⟩
        have hc2 := hc.keep hb2
        have hown2 := hown.keep hb2
        have hB2 := hB.trans (hb2.mono hB.size)
        obtain ⟨c0, c1⟩ := id hc2
        clear hb2 hc hown hB
        go_wp2_with fail
        refine (hI1.out _).mono ?_
        rintro e w3 ⟨rfl, hb3⟩
        have hc3 := hc2.keep hb3
        have hown3 := hown2.keep hb3
        have hB3 := hB2.trans (hb3.mono hB2.size)
        clear hb3 hc2 hown2 hB2 c0 c1
        obtain ⟨L', y, rfl, hy⟩ := iO.out (by first | rfl | trivial)
        have hyl := iL.out y (by simp)
        obtain ⟨m, hm⟩ : ∃ m, L'.length = m := ⟨_, rfl⟩
        obtain ⟨gv, cv, rfl⟩ := own_form hown3 (by simp)
        rw [show (L' ++ [y]).length = m + 1 by simp [hm]] at hown3 ⊢
        obtain ⟨hown4, q0, q1, q2⟩ := hown3.bump hm
        have hm3 : m ≤ 1000000 := by simp at hlen3; omega
        have fw1 : IntKind.i64.wrap ((m : Int) + 1 - 1) = (m : Int) := by rw [IntKind.wrap_i64]; omega
        have fw2 : IntKind.i64.wrap (m : Int) = (m : Int) := by rw [IntKind.wrap_i64]; omega
        have fw3 : (0 : Int) ≤ (m : Int) := by omega
        have fw4 : (m : Int) < (m : Int) + 1 := by omega
        have fw5 : -1000000000 ≤ y.2 := by have := SRight.one.1 (SRight.app.1 iR.out).2.1; omega
        have fw6 : y.2 ≤ 1000000000 := by have := hxv.out; omega
        replace hm := Lib.hid hm
        replace hy := Lib.hid hy
        have hcn : C2 (w3.setCell ⟨gv, m * 2 + 1, none⟩ (.int .i64 (y.2 + 1))) w.heap.size (.int .i64 s.1) (.int .i64 s.2) := ⟨by rw [World.cell?_setCell_other _ _ _ _ (by intro h; simp only [Addr.mk.injEq] at h; omega)]; exact hc3.1, by rw [World.cell?_setCell_other _ _ _ _ (by intro h; simp only [Addr.mk.injEq] at h; omega)]; exact hc3.2⟩
        have hB4 : Below w.heap.size w (w3.setCell ⟨gv, m * 2 + 1, none⟩ (.int .i64 (y.2 + 1))) := hB3.setCell (by simp only []; omega) _
        rw [bump_snoc] at e1
        clear hown3 hc3 hB3
        go_wp2_with fail
        go_roundw
        case rel => exact ⟨k + 1, T, by omega, by first | (rw [← hxx.out]) | (rw [hxx.out]), by rw [← e2.out], hTT, by rw [← e1.out]; exact hown4, hcn, hB4⟩
        case measure => simp [intOf]; omega
      · -- has true, in false, open false
        obtain ⟨e1, e2⟩ := hT2.out
        simp only [Bool.not_true, Bool.not_false, Bool.and_true, Bool.and_false, Bool.or_true, Bool.or_false, Bool.false_eq_true, if_true, if_false] at e1 e2
        replace e1 := Lib.hid e1
        replace e2 := Lib.hid e2
        clear hT2
        go_wp2_with fail
        refine hH1.out.mono ?_
        rintro e w2 ⟨rfl, hb2⟩
        have hc2 := hc.keep hb2
        have hown2 := hown.keep hb2
        have hB2 := hB.trans (hb2.mono hB.size)
        obtain ⟨c0, c1⟩ := id hc2
        clear hb2 hc hown hB
        go_wp2_with fail
        refine (hI1.out _).mono ?_
        rintro e w3 ⟨rfl, hb3⟩
        have hc3 := hc2.keep hb3
        have hown3 := hown2.keep hb3
        have hB3 := hB2.trans (hb3.mono hB2.size)
        clear hb3 hc2 hown2 hB2 c0 c1
        obtain ⟨v', w4, hrun, ho, hg2, hl2⟩ := app1 (w := w3.alloc (.cells #[.int .i64 x, .int .i64 1] (63 : Nat))) (l := tl) (s := (x, 1)) (base := w.heap.size + 1) (hown3.keep ((Below.refl _ _).alloc (Nat.le_refl _) _)) (C2.new w3 (.int .i64 x) (.int .i64 1) (63 : Nat)) (by have := hc3.lt; simp; omega) (by omega)
        have hB4 : Below w.heap.size w w4 := (hB3.alloc hB3.size _).grown hg2 (by have := hB3.size; simp; omega) (fun j hj => by have := (hown3.lt _ hj).1; omega)
        have hcn := grown_c2 (hc3.alloc (.cells #[.int .i64 x, .int .i64 1] (63 : Nat))) hg2 (fun e => by have := (hown3.lt _ e.symm).1; omega)
        clear hg2 hl2 hown3 hc3 hB3
        go_wp2_with (at_builtin; refine wpList_append_run rfl _ _ 57 rfl _ _ _ rfl rfl hrun ?_)
        clear hrun
        go_wp2_with fail
        go_roundw
        case rel => exact ⟨k + 1, T, by omega, by first | (rw [← hxx.out]) | (rw [hxx.out]), by rw [← e2.out], hTT, by rw [← e1.out]; exact ho, hcn, hB4⟩
        case measure => simp [intOf]; omega
      · -- has true, in false, open true
        obtain ⟨e1, e2⟩ := hT2.out
        simp only [Bool.not_true, Bool.not_false, Bool.and_true, Bool.and_false, Bool.or_true, Bool.or_false, Bool.false_eq_true, if_true, if_false] at e1 e2
        replace e1 := Lib.hid e1
        replace e2 := Lib.hid e2
        clear hT2
        go_wp2_with fail
        refine hH1.out.mono ?_
        rintro e w2 ⟨rfl, hb2⟩
        have hc2 := hc.keep hb2
        have hown2 := hown.keep hb2
        have hB2 := hB.trans (hb2.mono hB.size)
        obtain ⟨c0, c1⟩ := id hc2
        clear hb2 hc hown hB
        go_wp2_with fail
        refine (hI1.out _).mono ?_
        rintro e w3 ⟨rfl, hb3⟩
        have hc3 := hc2.keep hb3
        have hown3 := hown2.keep hb3
        have hB3 := hB2.trans (hb3.mono hB2.size)
        clear hb3 hc2 hown2 hB2 c0 c1
        obtain ⟨L', y, rfl, hy⟩ := iO.out (by first | rfl | trivial)
        have hyl := iL.out y (by simp)
        obtain ⟨m, hm⟩ : ∃ m, L'.length = m := ⟨_, rfl⟩
        obtain ⟨gv, cv, rfl⟩ := own_form hown3 (by simp)
        rw [show (L' ++ [y]).length = m + 1 by simp [hm]] at hown3 ⊢
        obtain ⟨hown4, q0, q1, q2⟩ := hown3.bump hm
        have hm3 : m ≤ 1000000 := by simp at hlen3; omega
        have fw1 : IntKind.i64.wrap ((m : Int) + 1 - 1) = (m : Int) := by rw [IntKind.wrap_i64]; omega
        have fw2 : IntKind.i64.wrap (m : Int) = (m : Int) := by rw [IntKind.wrap_i64]; omega
        have fw3 : (0 : Int) ≤ (m : Int) := by omega
        have fw4 : (m : Int) < (m : Int) + 1 := by omega
        have fw5 : -1000000000 ≤ y.2 := by have := SRight.one.1 (SRight.app.1 iR.out).2.1; omega
        have fw6 : y.2 ≤ 1000000000 := by have := hxv.out; omega
        replace hm := Lib.hid hm
        replace hy := Lib.hid hy
        have hcn : C2 (w3.setCell ⟨gv, m * 2 + 1, none⟩ (.int .i64 (y.2 + 1))) w.heap.size (.int .i64 s.1) (.int .i64 s.2) := ⟨by rw [World.cell?_setCell_other _ _ _ _ (by intro h; simp only [Addr.mk.injEq] at h; omega)]; exact hc3.1, by rw [World.cell?_setCell_other _ _ _ _ (by intro h; simp only [Addr.mk.injEq] at h; omega)]; exact hc3.2⟩
        have hB4 : Below w.heap.size w (w3.setCell ⟨gv, m * 2 + 1, none⟩ (.int .i64 (y.2 + 1))) := hB3.setCell (by simp only []; omega) _
        rw [bump_snoc] at e1
        clear hown3 hc3 hB3
        go_wp2_with fail
        go_roundw
        case rel => exact ⟨k + 1, T, by omega, by first | (rw [← hxx.out]) | (rw [hxx.out]), by rw [← e2.out], hTT, by rw [← e1.out]; exact hown4, hcn, hB4⟩
        case measure => simp [intOf]; omega
      · -- has true, in true, open false
        obtain ⟨e1, e2⟩ := hT2.out
        simp only [Bool.not_true, Bool.not_false, Bool.and_true, Bool.and_false, Bool.or_true, Bool.or_false, Bool.false_eq_true, if_true, if_false] at e1 e2
        replace e1 := Lib.hid e1
        replace e2 := Lib.hid e2
        clear hT2
        go_wp2_with fail
        refine hH1.out.mono ?_
        rintro e w2 ⟨rfl, hb2⟩
        have hc2 := hc.keep hb2
        have hown2 := hown.keep hb2
        have hB2 := hB.trans (hb2.mono hB.size)
        obtain ⟨c0, c1⟩ := id hc2
        clear hb2 hc hown hB
        go_wp2_with fail
        refine (hI1.out _).mono ?_
        rintro e w3 ⟨rfl, hb3⟩
        have hc3 := hc2.keep hb3
        have hown3 := hown2.keep hb3
        have hB3 := hB2.trans (hb3.mono hB2.size)
        clear hb3 hc2 hown2 hB2 c0 c1
        obtain ⟨v', w4, hrun, ho, hg2, hl2⟩ := app1 (w := w3.alloc (.cells #[.int .i64 x, .int .i64 1] (63 : Nat))) (l := tl) (s := (x, 1)) (base := w.heap.size + 1) (hown3.keep ((Below.refl _ _).alloc (Nat.le_refl _) _)) (C2.new w3 (.int .i64 x) (.int .i64 1) (63 : Nat)) (by have := hc3.lt; simp; omega) (by omega)
        have hB4 : Below w.heap.size w w4 := (hB3.alloc hB3.size _).grown hg2 (by have := hB3.size; simp; omega) (fun j hj => by have := (hown3.lt _ hj).1; omega)
        have hcn := grown_c2 (hc3.alloc (.cells #[.int .i64 x, .int .i64 1] (63 : Nat))) hg2 (fun e => by have := (hown3.lt _ e.symm).1; omega)
        clear hg2 hl2 hown3 hc3 hB3
        go_wp2_with (at_builtin; refine wpList_append_run rfl _ _ 57 rfl _ _ _ rfl rfl hrun ?_)
        clear hrun
        go_wp2_with fail
        go_roundw
        case rel => exact ⟨k + 1, T, by omega, by first | (rw [← hxx.out]) | (rw [hxx.out]), by rw [← e2.out], hTT, by rw [← e1.out]; exact ho, hcn, hB4⟩
        case measure => simp [intOf]; omega
      · -- has true, in true, open true
        obtain ⟨e1, e2⟩ := hT2.out
        simp only [Bool.not_true, Bool.not_false, Bool.and_true, Bool.and_false, Bool.or_true, Bool.or_false, Bool.false_eq_true, if_true, if_false] at e1 e2
        replace e1 := Lib.hid e1
        replace e2 := Lib.hid e2
        clear hT2
        go_wp2_with fail
        refine hH1.out.mono ?_
        rintro e w2 ⟨rfl, hb2⟩
        have hc2 := hc.keep hb2
        have hown2 := hown.keep hb2
        have hB2 := hB.trans (hb2.mono hB.size)
        obtain ⟨c0, c1⟩ := id hc2
        clear hb2 hc hown hB
        go_wp2_with fail
        refine (hI1.out _).mono ?_
        rintro e w3 ⟨rfl, hb3⟩
        have hc3 := hc2.keep hb3
        have hown3 := hown2.keep hb3
        have hB3 := hB2.trans (hb3.mono hB2.size)
        clear hb3 hc2 hown2 hB2 c0 c1
        obtain ⟨L', y, rfl, hy⟩ := iO.out (by first | rfl | trivial)
        have hyl := iL.out y (by simp)
        obtain ⟨m, hm⟩ : ∃ m, L'.length = m := ⟨_, rfl⟩
        obtain ⟨gv, cv, rfl⟩ := own_form hown3 (by simp)
        rw [show (L' ++ [y]).length = m + 1 by simp [hm]] at hown3 ⊢
        obtain ⟨hown4, q0, q1, q2⟩ := hown3.bump hm
        have hm3 : m ≤ 1000000 := by simp at hlen3; omega
        have fw1 : IntKind.i64.wrap ((m : Int) + 1 - 1) = (m : Int) := by rw [IntKind.wrap_i64]; omega
        have fw2 : IntKind.i64.wrap (m : Int) = (m : Int) := by rw [IntKind.wrap_i64]; omega
        have fw3 : (0 : Int) ≤ (m : Int) := by omega
        have fw4 : (m : Int) < (m : Int) + 1 := by omega
        have fw5 : -1000000000 ≤ y.2 := by have := SRight.one.1 (SRight.app.1 iR.out).2.1; omega
        have fw6 : y.2 ≤ 1000000000 := by have := hxv.out; omega
        replace hm := Lib.hid hm
        replace hy := Lib.hid hy
        have hcn : C2 (w3.setCell ⟨gv, m * 2 + 1, none⟩ (.int .i64 (y.2 + 1))) w.heap.size (.int .i64 s.1) (.int .i64 s.2) := ⟨by rw [World.cell?_setCell_other _ _ _ _ (by intro h; simp only [Addr.mk.injEq] at h; omega)]; exact hc3.1, by rw [World.cell?_setCell_other _ _ _ _ (by intro h; simp only [Addr.mk.injEq] at h; omega)]; exact hc3.2⟩
        have hB4 : Below w.heap.size w (w3.setCell ⟨gv, m * 2 + 1, none⟩ (.int .i64 (y.2 + 1))) := hB3.setCell (by simp only []; omega) _
        rw [bump_snoc] at e1
        clear hown3 hc3 hB3
        go_wp2_with fail
        go_roundw
        case rel => exact ⟨k + 1, T, by omega, by first | (rw [← hxx.out]) | (rw [hxx.out]), by rw [← e2.out], hTT, by rw [← e1.out]; exact hown4, hcn, hB4⟩
        case measure => simp [intOf]; omega
    · obtain rfl : k = N := by omega
      have hR := Lib.hid (show t.l = ofL low k l s false from by rw [hT.out, hE.out])
      go_wp2_with fail
      go_ret
      exact ⟨_, rfl, by rw [← hR.out]; exact hown.mono (by omega), hB⟩

end Go.Proofs.Ytcemiclbeocnjaa
