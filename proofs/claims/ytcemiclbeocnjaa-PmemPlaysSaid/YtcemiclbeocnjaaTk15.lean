/-
  Layer 20 (tx): the document's Note, May, Noted.
-/
import Derived.Test.YtcemiclbeocnjaaTk14
import Derived.Test.YtcemiclbeocnjaaTSpan7
set_option linter.unusedVariables false
set_option linter.unusedSimpArgs false
namespace Go.Proofs.Ytcemiclbeocnjaa
open Go.RowKit Go.ChangeShapes Go.WideShapes Go.Deep Go.Maps

/-- may a word not be stored to? -/
def noB (r : Rf) (z : Int) : Bool := !(ownB r.fresh z || hasB r.words z)
/-- what is gone through is of a size that is looked at -/
structure GoodR (r : Rf) : Prop where
  fresh : ∀ f ∈ r.fresh, GoodF f
  fn : r.fresh.length ≤ 1000
  words : SBs r.words
  wn : r.words.length ≤ 1000

set_option maxRecDepth 10000 in
set_option maxHeartbeats 2000000 in
theorem refMay_any (B : Nat) (G : Nat → Prop) (r : Rf) (a b : Int) (w : World) (h : RfAt w B G r) (hg : GoodR r) (ha : 0 ≤ a) (hb : 0 ≤ b) (hab : a + b ≤ 1000) :
    Calls Try.prog 67 #[.pointer (some ⟨B, 0, none⟩), .agg #[.int .i64 a, .int .i64 b]] w fun e w' => ∃ t : Bool, e = .returned (.bool t) ∧ (t = true ↔ ∀ z, a ≤ z → z < a + b → noB r z = false) ∧ Below w.heap.size w w' := by
  obtain ⟨n, rfl⟩ := Int.eq_ofNat_of_zero_le hb
  have hwn := IntKind.wrap_i64 (a + n)
  obtain ⟨w0, hw0⟩ : ∃ w0, w.alloc (.cells #[.int .i64 a, .int .i64 n] (63 : Nat)) = w0 := ⟨_, rfl⟩
  have hb0 : Below w.heap.size w w0 := by rw [← hw0]; exact (Below.refl _ w).alloc (Nat.le_refl _) _
  have kk : C2 w0 w.heap.size (.int .i64 a) (.int .i64 n) := by rw [← hw0]; exact C2.new w _ _ _
  have hs0 : w0.heap.size = w.heap.size + 1 := by rw [← hw0]; simp
  have h0 := h.keep hb0
  have hBl := h.lt _ h.gB
  have hOwn := Lib.hid (fun (x : Int) (wr : World) (hB : Below w0.heap.size w0 wr) (h1 : 0 ≤ x) (h2 : x ≤ 1000) => refOwn_any B G r x wr (h0.keep hB) hg.fresh hg.fn (by omega) (by omega))
  obtain ⟨v2, v3, v4, hR⟩ := h0
  have hHas := Lib.hid (fun (x : Int) (wr : World) (hB : Below w0.heap.size w0 wr) (h1 : 0 ≤ x) (h2 : x ≤ 1000) => has_any v2 r.words x wr hg.words hg.wn (hR.words.keep hB).pl (by omega) (by omega))
  have c2 := hR.cells.1.2.2.1
  obtain ⟨m, hm⟩ : ∃ m, r.words.length = m := ⟨_, rfl⟩
  obtain ⟨A2, cap2, rfl, _⟩ := ((ownSp_iff.1 hR.words).el spE_len).form hm
  have hN := Lib.hid (fun z => show noB r z = !(ownB r.fresh z || hasB r.words z) from rfl)
  generalize r.words = W at *
  generalize r.fresh = L at *
  clear hR hg hm h
  have hb0' := Lib.hid hb0
  clear hb0
  go_enter Try.func67, Try.ntmps67
  obtain ⟨kk0, kk1⟩ := id kk
  go_wp2_with fail
  go_loopw [5] (fun x wr => ∃ k : Nat, k ≤ n ∧ x = .int .i64 (a + k) ∧ Hid (∀ z, a ≤ z → z < a + k → noB r z = false) ∧ Below w0.heap.size w0 wr) (fun x _ => (a + n + 1 - intOf x).toNat)
  case atStart => exact ⟨0, Nat.zero_le _, by simp, (fun z h1 h2 => by omega), Below.refl _ _⟩
  case round =>
    obtain ⟨k, hk, rfl, hF, hB⟩ := hrel
    have cr := cellK c2 hB
    have kr := kk.keep hB
    obtain ⟨k0, k1⟩ := kr
    have hsz := hB.size
    have hx0 : 0 ≤ a + (k : Int) := by omega
    have hx1 : a + (k : Int) ≤ 1000 := by omega
    have e1 : a + (k : Int) + 1 = a + ((k + 1 : Nat) : Int) := by omega
    replace e1 := Lib.hid e1
    by_cases hlt : k < n
    · have hlt' : a + (k : Int) < a + (n : Int) := by omega
      obtain ⟨x, hxe⟩ : ∃ x, a + (k : Int) = x := ⟨_, rfl⟩
      rw [hxe] at e1 hx0 hx1 hlt' ⊢
      replace hxe := Lib.hid hxe
      have ho := hOwn.out x wr hB hx0 hx1
      go_wp2_with (first
        | (go_at_call 89; refine ho.mono ?_; rintro e w1 ⟨rfl, hb1⟩
           have hB1 := hB.trans (hb1.mono hsz)
           have hh := hHas.out x w1 hB1 hx0 hx1
           have cr1 := cellK c2 hB1
           clear ho hb1)
        | (go_at_call 90; refine hh.mono ?_; rintro e w2 ⟨rfl, hb2⟩
           have hB2 := hB1.trans (hb2.mono hB1.size)
           have hNx := hN.out x
           generalize ownB L x = o1 at *
           generalize hasB W x = o2 at *
           replace hNx := Lib.hid hNx
           clear hh hb2
           cases o1 <;> cases o2))
      · go_ret
        refine ⟨false, rfl, ⟨fun q => (by cases q), fun q => ?_⟩, hb0'.out.trans (hB2.mono (by omega))⟩
        have hxx := hxe.out
        have q2 := q x (by omega) (by omega)
        rw [hNx.out] at q2
        cases q2
      · go_roundw
        case rel => exact ⟨k + 1, by omega, by first | (rw [← e1.out]) | (rw [← e1.out]; go_num), (fun z h1 h2 => by
          have hxx := hxe.out
          rcases Int.lt_or_le z x with q | q
          · exact hF.out z h1 (by omega)
          · obtain rfl : z = x := by have := e1.out; omega
            rw [hNx.out]; rfl), hB2⟩
        case measure => have hxx := hxe.out; simp [intOf]; omega
      · go_roundw
        case rel => exact ⟨k + 1, by omega, by first | (rw [← e1.out]) | (rw [← e1.out]; go_num), (fun z h1 h2 => by
          have hxx := hxe.out
          rcases Int.lt_or_le z x with q | q
          · exact hF.out z h1 (by omega)
          · obtain rfl : z = x := by have := e1.out; omega
            rw [hNx.out]; rfl), hB2⟩
        case measure => have hxx := hxe.out; simp [intOf]; omega
      · go_roundw
        case rel => exact ⟨k + 1, by omega, by first | (rw [← e1.out]) | (rw [← e1.out]; go_num), (fun z h1 h2 => by
          have hxx := hxe.out
          rcases Int.lt_or_le z x with q | q
          · exact hF.out z h1 (by omega)
          · obtain rfl : z = x := by have := e1.out; omega
            rw [hNx.out]; rfl), hB2⟩
        case measure => have hxx := hxe.out; simp [intOf]; omega
    · obtain rfl : k = n := by omega
      go_wp2_with fail
      go_ret
      exact ⟨true, rfl, ⟨fun _ => hF.out, fun _ => rfl⟩, hb0'.out.trans (hB.mono (by omega))⟩

/-- what isn't to be stored to, of n words from a on -/
def newL (r : Rf) (a : Int) (n : Nat) : List Sp := (ofN (noB r) a n).l
theorem own_last {w : World} {base g cap m : Nat} {L : List Sp} {x : Sp} (h : OwnSp w base (.slice (some ⟨g, 0, none⟩) (m + 1) cap) (L ++ [x])) (hm : L.length = m) : w.cell? ⟨g, m * 2, none⟩ = some (.int .i64 x.1) ∧ w.cell? ⟨g, m * 2 + 1, none⟩ = some (.int .i64 x.2) := by
  unfold OwnSp at h
  have hl : (L ++ [x]).length = m + 1 := by simp [hm]
  rw [hl] at h
  constructor
  · rw [h.cellAt _ (by omega), spv_app, List.getElem?_append_right (by rw [spv_len]; omega), spv_len, hm, show m * 2 - m * 2 = 0 by omega]
    rfl
  · rw [h.cellAt _ (by omega), spv_app, List.getElem?_append_right (by rw [spv_len]; omega), spv_len, hm, show m * 2 + 1 - m * 2 = 1 by omega]
    rfl
theorem one_span2 (w : World) (a b : Int) : EL 2 spE (w.alloc (.cells (spE (a, b)).toArray (63 : Nat))) (.slice (some ⟨w.heap.size, 0, none⟩) 1 1) [(a, b)] := (OwnE.lit 63 spE_len w [(a, b)] (spE (a, b)).toArray (by simp) (by simp)).el spE_len
theorem note_close {w w0 wr : World} {B : Nat} {v2 v3 v4 u : Value} {G : Nat → Prop} {r : Rf} {N : List Sp} (hb0 : Below w.heap.size w w0) (hB : Below w0.heap.size w0 wr) (hR0 : RfR w0 B v2 v3 v4 G r) (hu : OwnSp wr w0.heap.size u N) (hlen : r.words.length ≤ 1000000) (hN : N.length ≤ 1000000) :
    ∃ v' w5, (Builtin.append_ #[57, 57] 57 #[v2, u]).run Try.prog wr = .ok v' w5 ∧ (w5.cell? ⟨B, 2, none⟩ = some v2 ∧ w5.frozen? ⟨B, 2, none⟩ = false) ∧ (∃ A cap, v' = .slice A (r.words ++ N).length cap) ∧ OwnSp (w5.setCell ⟨B, 2, none⟩ v') w0.heap.size u N ∧
      (∃ G', RfAt (w5.setCell ⟨B, 2, none⟩ v') B G' { r with words := r.words ++ N } ∧ Step G w G' (w5.setCell ⟨B, 2, none⟩ v') ∧ ∀ k, u.ownBlock = some k → ¬ G' k) := by
  have hR := hR0.keep hB
  have hs := hB.size
  have hs0 := hb0.size
  obtain ⟨v', w5, hrun, ho, hg, hn, _⟩ := appE spT (ownSp_iff.1 hR.words) ((ownSp_iff.1 hu).el spE_len) (Nat.zero_le _) hlen hN
  have hul := (ownSp_iff.1 hu).lt
  have hc0 : Chg (fun k => v2.ownBlock = some k) wr w5 := Chg.of_grown hg (fun k e => .inl e)
  have hc1 := Chg.setCell (S := G) w5 B 2 v' hR.gB
  have hc : Chg G wr (w5.setCell ⟨B, 2, none⟩ v') := (Chg.of_grown (S := G) hg (fun k e => .inl (hR.g2 k e))).trans hc1 (fun j q => .inl q)
  have hRR := hR.wordsTo hg (ownSp_iff.2 ho)
  refine ⟨v', w5, hrun, hR.wordsCell hg, ?_, hu.chg hc (fun k e q => by have := hR0.lt k q; have := (hul k e).1; omega), _, ⟨_, _, _, hRR⟩, ⟨fun j e => ?_, ?_⟩, fun k e q => ?_⟩
  · obtain ⟨A, cap, h, _⟩ := (ho.el spE_len).form rfl
    exact ⟨A, cap, h⟩
  · rcases e with e | e
    · exact .inl e
    · rcases hn with q | q
      · rw [q] at e; exact .inl (hR.g2 j e)
      · rw [q] at e; cases e; exact .inr (by omega)
  · exact (Chg.of_below G (hb0.trans (hB.mono hs0))).trans hc (fun j q => .inl q)
  · rcases q with q | q
    · have := hR0.lt k q; have := (hul k e).1; omega
    · rcases hn with z | z
      · rw [z] at q; have := hR0.lt k (hR0.g2 k q); have := (hul k e).1; omega
      · rw [z] at q; cases q; have := (hul _ e).2; omega

set_option maxRecDepth 10000 in
set_option maxHeartbeats 4000000 in
theorem refNote_any (B : Nat) (G : Nat → Prop) (r : Rf) (a : Int) (n : Nat) (w : World) (h : RfAt w B G r) (hg : GoodR r) (ha : 0 ≤ a) (hab : a + n ≤ 1000) :
    Calls Try.prog 66 #[.pointer (some ⟨B, 0, none⟩), .agg #[.int .i64 a, .int .i64 n]] w fun e w' => ∃ v, e = .returned v ∧ OwnSp w' w.heap.size v (newL r a n) ∧
      (∃ G', RfAt w' B G' { r with words := r.words ++ newL r a n } ∧ Step G w G' w' ∧ ∀ k, v.ownBlock = some k → ¬ G' k) := by
  obtain ⟨w0, hw0⟩ : ∃ w0, w.alloc (.cells #[.int .i64 a, .int .i64 n] (63 : Nat)) = w0 := ⟨_, rfl⟩
  have hb0 : Below w.heap.size w w0 := by rw [← hw0]; exact (Below.refl _ w).alloc (Nat.le_refl _) _
  have kk : C2 w0 w.heap.size (.int .i64 a) (.int .i64 n) := by rw [← hw0]; exact C2.new w _ _ _
  have hs0 : w0.heap.size = w.heap.size + 1 := by rw [← hw0]; simp
  have h0 := h.keep hb0
  have hBl := h.lt _ h.gB
  have hOwn := Lib.hid (fun (x : Int) (wr : World) (hB : Below w0.heap.size w0 wr) (h1 : 0 ≤ x) (h2 : x ≤ 1000) => refOwn_any B G r x wr (h0.keep hB) hg.fresh hg.fn (by omega) (by omega))
  obtain ⟨v2, v3, v4, hR⟩ := h0
  have hHas := Lib.hid (fun (x : Int) (wr : World) (hB : Below w0.heap.size w0 wr) (h1 : 0 ≤ x) (h2 : x ≤ 1000) => has_any v2 r.words x wr hg.words hg.wn (hR.words.keep hB).pl (by omega) (by omega))
  have c2 := hR.cells.1.2.2.1
  obtain ⟨m, hm⟩ : ∃ m, r.words.length = m := ⟨_, rfl⟩
  obtain ⟨A2, cap2, rfl, _⟩ := ((ownSp_iff.1 hR.words).el spE_len).form hm
  have hN := Lib.hid (fun z => show noB r z = !(ownB r.fresh z || hasB r.words z) from rfl)
  have hwn := hg.wn
  have hClose := Lib.hid (fun (wr : World) (u : Value) (hB : Below w0.heap.size w0 wr) (hu : OwnSp wr w0.heap.size u (newL r a n)) (hNl : (newL r a n).length ≤ 1000000) => note_close hb0 hB hR hu (by omega) hNl)
  have hstep := Lib.hid (fun k => show ofN (noB r) a (k + 1) = ofF (noB r) (ofN (noB r) a k) (a + k) from rfl)
  have hinv := Lib.hid (fun k => ofN_inv (noB r) a k)
  have hlen2 := Lib.hid (fun k => ofN_len (noB r) a k)
  have hE := Lib.hid (show (ofN (noB r) a n).l = newL r a n from rfl)
  have hn9 : n ≤ 1000 := by omega
  have hm9 : m ≤ 1000 := by omega
  generalize ownB r.fresh = ow at *
  generalize hasB r.words = hs at *
  clear hR hg hm h hwn
  replace hb0 := Lib.hid hb0
  go_enter Try.func66, Try.ntmps66
  obtain ⟨kk0, kk1⟩ := id kk
  go_wp2_with fail
  go_loopw [5, 6] (fun u x wr => ∃ (k : Nat) (t : OfSt), k ≤ n ∧ x = .int .i64 (a + k) ∧ Hid (t = ofN (noB r) a k) ∧ OwnSp wr w0.heap.size u t.l ∧ Below w0.heap.size w0 wr) (fun _ x _ => (a + n + 1 - intOf x).toNat)
  case atStart => exact ⟨0, ⟨[], false⟩, Nat.zero_le _, by simp, rfl, OwnSp.nil _ _, Below.refl _ _⟩
  case round =>
    obtain ⟨k, t, hk, rfl, hT, hu, hB⟩ := hrel
    have cr := cellK c2 hB
    have kr := kk.keep hB
    obtain ⟨k0, k1⟩ := kr
    have hsz := hB.size
    have hx0 : 0 ≤ a + (k : Int) := by omega
    have hx1 : a + (k : Int) ≤ 1000 := by omega
    have e1 : a + (k : Int) + 1 = a + ((k + 1 : Nat) : Int) := by omega
    replace e1 := Lib.hid e1
    by_cases hlt : k < n
    · have hlt' : a + (k : Int) < a + (n : Int) := by omega
      have hT1 := Lib.hid (show ofF (noB r) t (a + k) = ofN (noB r) a (k + 1) from by rw [hstep.out, ← hT.out])
      have hl3 := hlen2.out k
      rw [← hT.out] at hl3
      obtain ⟨iR, _, iO, iC, iL⟩ := hinv.out k
      rw [← hT.out] at iO iC iR iL
      replace iO := Lib.hid iO
      replace iC := Lib.hid iC
      obtain ⟨x, hxe⟩ : ∃ x, a + (k : Int) = x := ⟨_, rfl⟩
      rw [hxe] at e1 hx0 hx1 hlt' hT1 iO iC ⊢
      replace hxe := Lib.hid hxe
      have ho := hOwn.out x wr hB hx0 hx1
      have hPx := hN.out x
      have hmv : IntKind.i64.wrap (0 : Int) = 0 := by rw [IntKind.wrap_i64]; omega
      cases hp1 : ow x with
      | true =>
        rw [hp1] at ho hPx
        have hT2 := Lib.hid (show (ofN (noB r) a (k + 1)).l = t.l from by rw [← hT1.out]; unfold ofF; rw [hPx]; rfl)
        replace hPx := Lib.hid hPx
        rw [← hT2.out] at hu
        go_wp2_with (first
          | (go_at_call 89; refine ho.mono ?_; rintro e w1 ⟨rfl, hb1⟩
             have hB1 := hB.trans (hb1.mono hsz)
             have hh := hHas.out x w1 hB1 hx0 hx1
             have cr1 := cellK c2 hB1
             replace hu := Lib.hid (hu.keep hb1)
             clear ho hb1)
          | (go_at_call 90; refine hh.mono ?_; rintro e w2 ⟨rfl, hb2⟩
             have hB2 := hB1.trans (hb2.mono hB1.size)
             replace hu := Lib.hid (hu.out.keep hb2)
             generalize hs x = o2 at *
             clear hh hb2))
        go_roundw
        case rel => exact ⟨k + 1, _, by omega, by first | (rw [← e1.out]) | (rw [← e1.out]; go_num), rfl, hu.out, hB2⟩
        case measure => have hxx := hxe.out; simp [intOf]; omega
      | false =>
      cases hp2 : hs x with
      | true =>
        rw [hp1, hp2] at hPx
        rw [hp1] at ho
        have hT2 := Lib.hid (show (ofN (noB r) a (k + 1)).l = t.l from by rw [← hT1.out]; unfold ofF; rw [hPx]; rfl)
        replace hPx := Lib.hid hPx
        rw [← hT2.out] at hu
        replace hp2 := Lib.hid hp2
        go_wp2_with (first
          | (go_at_call 89; refine ho.mono ?_; rintro e w1 ⟨rfl, hb1⟩
             have hB1 := hB.trans (hb1.mono hsz)
             have hh := hHas.out x w1 hB1 hx0 hx1
             rw [hp2.out] at hh
             have cr1 := cellK c2 hB1
             replace hu := Lib.hid (hu.keep hb1)
             clear ho hb1)
          | (go_at_call 90; refine hh.mono ?_; rintro e w2 ⟨rfl, hb2⟩
             have hB2 := hB1.trans (hb2.mono hB1.size)
             replace hu := Lib.hid (hu.out.keep hb2)
             clear hh hb2))
        go_roundw
        case rel => exact ⟨k + 1, _, by omega, by first | (rw [← e1.out]) | (rw [← e1.out]; go_num), rfl, hu.out, hB2⟩
        case measure => have hxx := hxe.out; simp [intOf]; omega
      | false =>
        rw [hp1, hp2] at hPx
        rw [hp1] at ho
        replace hPx : noB r x = true := hPx
        replace hp2 := Lib.hid hp2
        obtain ⟨tl, to⟩ := t
        simp only [] at *
        cases to with
        | true =>
          obtain ⟨o, y, rfl, hy⟩ := iO.out rfl
          have hyx : y.1 + y.2 = x := by first | exact hy | (rw [hy]; exact hxe.out)
          have hT2 := Lib.hid (show ofN (noB r) a (k + 1) = ⟨o ++ [(y.1, y.2 + 1)], true⟩ from by rw [← hT1.out]; unfold ofF; rw [hPx]; simp [bump_snoc])
          replace hPx := Lib.hid hPx
          obtain ⟨q, hq⟩ : ∃ q, o.length = q := ⟨_, rfl⟩
          have hq9 : q ≤ 1000 := by simp at hl3; omega
          obtain ⟨g, cap, rfl, hg1, hg2, hcap⟩ := (ownSp_iff.1 hu).form (by simp)
          rw [show (o ++ [y]).length = q + 1 by simp [hq]] at hu hcap ⊢
          have hy1 : a ≤ y.1 := iL y (by simp)
          have hy2 : 1 ≤ y.2 := iR.1 y (by simp)
          have hy3 : y.2 ≤ 1000 := by omega
          have hy4 : y.1 ≤ 1000 := by omega
          have hsub : (q : Int) + 1 - 1 = (q : Int) := by omega
          have hlt1 : (q : Int) < (q : Int) + 1 := by omega
          have hge : decide ((0 : Int) ≤ (q : Int)) = true := decide_eq_true (by omega)
          have hbb : (x == x) = true := by simp
          have hwa : IntKind.i64.wrap x = x := by rw [IntKind.wrap_i64]; omega
          have hwb : IntKind.i64.wrap (y.2 + 1) = y.2 + 1 := by rw [IntKind.wrap_i64]; omega
          replace hq := hq
          clear iL iR iC
          go_wp2_with (first
            | (go_at_call 89; refine ho.mono ?_; rintro e w1 ⟨rfl, hb1⟩
               have hB1 := hB.trans (hb1.mono hsz)
               have hh := hHas.out x w1 hB1 hx0 hx1
               rw [hp2.out] at hh
               have cr1 := cellK c2 hB1
               replace hu := hu.keep hb1
               clear ho hb1)
            | (go_at_call 90; refine hh.mono ?_; rintro e w2 ⟨rfl, hb2⟩
               have hB2 := hB1.trans (hb2.mono hB1.size)
               replace hu := hu.keep hb2
               have hsz2 := hB2.size
               obtain ⟨z0, z1⟩ := own_last hu hq
               replace z0 : w2.drew.cell? ⟨g, q * 2, none⟩ = some (.int .i64 y.1) := z0
               replace z1 : w2.drew.cell? ⟨g, q * 2 + 1, none⟩ = some (.int .i64 y.2) := z1
               clear hh hb2))
          refine wp_region_held_drew (S := (fun w' => w' = w2.drew)) (by kernel_rfl) ?_ (fun hHeld => ?_)
          · (try dsimp only)
            all_goals rfl
          refine takeL 0 (v := ?_) rfl (by kernel_rfl) (by kernel_rfl) (by kernel_rfl) (fun _ _ _ h => h) (by rfl) (by assumption) ?_ ?_
          rotate_left
          · (intro w hSw; (try dsimp only at hSw); (subst hSw); go_simp <;> with_reducible rfl)
          try simp only [Act.put, List.setIfInBounds_toArray, List.set_cons_zero, List.set_cons_succ]
          refine takeL 1 (v := ?_) rfl (by kernel_rfl) (by kernel_rfl) (by kernel_rfl) (fun _ _ _ h => h) (by rfl) (by assumption) ?_ ?_
          rotate_left
          · (intro w hSw; (try dsimp only at hSw); (subst hSw); go_simp <;> with_reducible rfl)
          try simp only [Act.put, List.setIfInBounds_toArray, List.set_cons_zero, List.set_cons_succ]
          refine takeL 2 (v := ?_) rfl (by kernel_rfl) (by kernel_rfl) (by kernel_rfl) (fun _ _ _ h => h) (by rfl) (by assumption) ?_ ?_
          rotate_left
          · (intro w hSw; (try dsimp only at hSw); (subst hSw); go_simp <;> with_reducible rfl)
          try simp only [Act.put, List.setIfInBounds_toArray, List.set_cons_zero, List.set_cons_succ]
          refine takeL 3 (v := ?_) rfl (by kernel_rfl) (by kernel_rfl) (by kernel_rfl) (fun _ _ _ h => h) (by rfl) (by assumption) ?_ ?_
          rotate_left
          · (intro w hSw; (try dsimp only at hSw); (subst hSw); go_simp <;> with_reducible rfl)
          try simp only [Act.put, List.setIfInBounds_toArray, List.set_cons_zero, List.set_cons_succ]
          refine takeL 4 (v := ?_) rfl (by kernel_rfl) (by kernel_rfl) (by kernel_rfl) (fun _ _ _ h => h) (by rfl) (by assumption) ?_ ?_
          rotate_left
          · (intro w hSw; (try dsimp only at hSw); (subst hSw); go_simp <;> with_reducible rfl)
          try simp only [Act.put, List.setIfInBounds_toArray, List.set_cons_zero, List.set_cons_succ]
          refine takeL 5 (v := ?_) rfl (by kernel_rfl) (by kernel_rfl) (by kernel_rfl) (fun _ _ _ h => h) (by rfl) (by assumption) ?_ ?_
          rotate_left
          · (intro w hSw; (try dsimp only at hSw); (subst hSw); go_simp <;> with_reducible rfl)
          try simp only [Act.put, List.setIfInBounds_toArray, List.set_cons_zero, List.set_cons_succ]
          refine takeL 6 (v := ?_) rfl (by kernel_rfl) (by kernel_rfl) (by kernel_rfl) (fun _ _ _ h => h) (by rfl) (by assumption) ?_ ?_
          rotate_left
          · (intro w hSw; (try dsimp only at hSw); (subst hSw); go_simp <;> with_reducible rfl)
          try simp only [Act.put, List.setIfInBounds_toArray, List.set_cons_zero, List.set_cons_succ]
          refine takeL 7 (v := ?_) rfl (by kernel_rfl) (by kernel_rfl) (by kernel_rfl) (fun _ _ _ h => h) (by rfl) (by assumption) ?_ ?_
          rotate_left
          · (intro w hSw; (try dsimp only at hSw); (subst hSw); go_simp <;> with_reducible rfl)
          try simp only [Act.put, List.setIfInBounds_toArray, List.set_cons_zero, List.set_cons_succ]
          refine takeL 8 (v := ?_) rfl (by kernel_rfl) (by kernel_rfl) (by kernel_rfl) (fun _ _ _ h => h) (by rfl) (by assumption) ?_ ?_
          rotate_left
          · (intro w hSw; (try dsimp only at hSw); (subst hSw); go_simp <;> with_reducible rfl)
          try simp only [Act.put, List.setIfInBounds_toArray, List.set_cons_zero, List.set_cons_succ]
          refine takeL 9 (v := ?_) rfl (by kernel_rfl) (by kernel_rfl) (by kernel_rfl) (fun _ _ _ h => h) (by rfl) (by assumption) ?_ ?_
          rotate_left
          · (intro w hSw; (try dsimp only at hSw); (subst hSw); go_simp <;> with_reducible rfl)
          try simp only [Act.put, List.setIfInBounds_toArray, List.set_cons_zero, List.set_cons_succ]
          refine takeL 10 (v := ?_) rfl (by kernel_rfl) (by kernel_rfl) (by kernel_rfl) (fun _ _ _ h => h) (by rfl) (by assumption) ?_ ?_
          rotate_left
          · (intro w hSw; (try dsimp only at hSw); (subst hSw); go_simp <;> with_reducible rfl)
          try simp only [Act.put, List.setIfInBounds_toArray, List.set_cons_zero, List.set_cons_succ]
          refine takeL 11 (v := ?_) rfl (by kernel_rfl) (by kernel_rfl) (by kernel_rfl) (fun _ _ _ h => h) (by rfl) (by assumption) ?_ ?_
          rotate_left
          · (intro w hSw; (try dsimp only at hSw); (subst hSw); go_simp <;> with_reducible rfl)
          try simp only [Act.put, List.setIfInBounds_toArray, List.set_cons_zero, List.set_cons_succ]
          refine takeL 12 (v := ?_) rfl (by kernel_rfl) (by kernel_rfl) (by kernel_rfl) (fun _ _ _ h => h) (by rfl) (by assumption) ?_ ?_
          rotate_left
          · (intro w hSw; (try dsimp only at hSw); (subst hSw); go_simp <;> with_reducible rfl)
          try simp only [Act.put, List.setIfInBounds_toArray, List.set_cons_zero, List.set_cons_succ]
          refine takeL 13 (v := ?_) rfl (by kernel_rfl) (by kernel_rfl) (by kernel_rfl) (fun _ _ _ h => h) (by rfl) (by assumption) ?_ ?_
          rotate_left
          · (intro w hSw; (try dsimp only at hSw); (subst hSw); go_simp <;> with_reducible rfl)
          try simp only [Act.put, List.setIfInBounds_toArray, List.set_cons_zero, List.set_cons_succ]
          refine takeL 14 (v := ?_) rfl (by kernel_rfl) (by kernel_rfl) (by kernel_rfl) (fun _ _ _ h => h) (by rfl) (by assumption) ?_ ?_
          rotate_left
          · (intro w hSw; (try dsimp only at hSw); (subst hSw); go_simp <;> with_reducible rfl)
          try simp only [Act.put, List.setIfInBounds_toArray, List.set_cons_zero, List.set_cons_succ]
          refine takeL 15 (v := ?_) rfl (by kernel_rfl) (by kernel_rfl) (by kernel_rfl) (fun _ _ _ h => h) (by rfl) (by assumption) ?_ ?_
          rotate_left
          · (intro w hSw; (try dsimp only at hSw); (subst hSw); go_simp <;> with_reducible rfl)
          try simp only [Act.put, List.setIfInBounds_toArray, List.set_cons_zero, List.set_cons_succ]
          refine takeL 16 (v := ?_) rfl (by kernel_rfl) (by kernel_rfl) (by kernel_rfl) (fun _ _ _ h => h) (by rfl) (by assumption) ?_ ?_
          rotate_left
          · (intro w hSw; (try dsimp only at hSw); (subst hSw); go_simp <;> with_reducible rfl)
          try simp only [Act.put, List.setIfInBounds_toArray, List.set_cons_zero, List.set_cons_succ]
          refine wpAnyH_done (by kernel_rfl) ?_ _
          obtain ⟨hbm, hb3, hb4, hb5⟩ := OwnSp.bump (show OwnSp w2.drew w0.heap.size (.slice (some ⟨g, 0, none⟩) (q + 1) cap) (o ++ [y]) from hu) hq
          have hB3 := Lib.hid (hB2.drew.setCell (show w0.heap.size ≤ (⟨g, q * 2 + 1, none⟩ : Addr).block from hb5) (.int .i64 (y.2 + 1)))
          replace hbm := Lib.hid hbm
          clear hu z0
          go_wp2_with fail
          go_roundw
          case rel => exact ⟨k + 1, ⟨o ++ [(y.1, y.2 + 1)], true⟩, by omega, by first | (rw [← e1.out]) | (rw [← e1.out]; go_num), hT2.out.symm, hbm.out, hB3.out⟩
          case measure => have hxx := hxe.out; simp [intOf]; omega
        | false =>
          have hT2 := Lib.hid (show ofN (noB r) a (k + 1) = ⟨tl ++ [(x, 1)], true⟩ from by rw [← hT1.out]; unfold ofF; rw [hPx]; simp)
          replace hPx := Lib.hid hPx
          have hll : tl.length ≤ 1000 := by omega
          rcases List.eq_nil_or_concat tl with rfl | ⟨o, y, hoy⟩
          · obtain ⟨A6, cap, rfl, _⟩ := ((ownSp_iff.1 hu).el spE_len).form (n := 0) rfl
            have hge : decide ((0 : Int) ≤ -1) = false := by decide
            clear iL iR iC
            go_wp2_with (first
              | (go_at_call 89; refine ho.mono ?_; rintro e w1 ⟨rfl, hb1⟩
                 have hB1 := hB.trans (hb1.mono hsz)
                 have hh := hHas.out x w1 hB1 hx0 hx1
                 rw [hp2.out] at hh
                 have cr1 := cellK c2 hB1
                 replace hu := hu.keep hb1
                 clear ho hb1)
              | (go_at_call 90; refine hh.mono ?_; rintro e w2 ⟨rfl, hb2⟩
                 have hB2 := hB1.trans (hb2.mono hB1.size)
                 replace hu := hu.keep hb2
                 have hsz2 := hB2.size
                 skip
                 clear hh hb2))
            refine wp_region_held_drew (S := (fun w' => w' = w2.drew)) (by kernel_rfl) ?_ (fun hHeld => ?_)
            · (try dsimp only)
              all_goals rfl
            refine takeL 0 (v := ?_) rfl (by kernel_rfl) (by kernel_rfl) (by kernel_rfl) (fun _ _ _ h => h) (by rfl) (by assumption) ?_ ?_
            rotate_left
            · (intro w hSw; (try dsimp only at hSw); (subst hSw); go_simp <;> with_reducible rfl)
            try simp only [Act.put, List.setIfInBounds_toArray, List.set_cons_zero, List.set_cons_succ]
            refine takeL 1 (v := ?_) rfl (by kernel_rfl) (by kernel_rfl) (by kernel_rfl) (fun _ _ _ h => h) (by rfl) (by assumption) ?_ ?_
            rotate_left
            · (intro w hSw; (try dsimp only at hSw); (subst hSw); go_simp <;> with_reducible rfl)
            try simp only [Act.put, List.setIfInBounds_toArray, List.set_cons_zero, List.set_cons_succ]
            refine takeL 2 (v := ?_) rfl (by kernel_rfl) (by kernel_rfl) (by kernel_rfl) (fun _ _ _ h => h) (by rfl) (by assumption) ?_ ?_
            rotate_left
            · (intro w hSw; (try dsimp only at hSw); (subst hSw); go_simp <;> with_reducible rfl)
            try simp only [Act.put, List.setIfInBounds_toArray, List.set_cons_zero, List.set_cons_succ]
            refine idleL 3 rfl (by kernel_rfl) (by kernel_rfl) (by kernel_rfl) (fun _ _ _ h => h) (by rfl) (by assumption) ?_
            try simp only [Act.put, List.setIfInBounds_toArray, List.set_cons_zero, List.set_cons_succ]
            refine idleL 4 rfl (by kernel_rfl) (by kernel_rfl) (by kernel_rfl) (fun _ _ _ h => h) (by rfl) (by assumption) ?_
            try simp only [Act.put, List.setIfInBounds_toArray, List.set_cons_zero, List.set_cons_succ]
            refine idleL 5 rfl (by kernel_rfl) (by kernel_rfl) (by kernel_rfl) (fun _ _ _ h => h) (by rfl) (by assumption) ?_
            try simp only [Act.put, List.setIfInBounds_toArray, List.set_cons_zero, List.set_cons_succ]
            refine idleL 6 rfl (by kernel_rfl) (by kernel_rfl) (by kernel_rfl) (fun _ _ _ h => h) (by rfl) (by assumption) ?_
            try simp only [Act.put, List.setIfInBounds_toArray, List.set_cons_zero, List.set_cons_succ]
            refine idleL 7 rfl (by kernel_rfl) (by kernel_rfl) (by kernel_rfl) (fun _ _ _ h => h) (by rfl) (by assumption) ?_
            try simp only [Act.put, List.setIfInBounds_toArray, List.set_cons_zero, List.set_cons_succ]
            refine idleL 8 rfl (by kernel_rfl) (by kernel_rfl) (by kernel_rfl) (fun _ _ _ h => h) (by rfl) (by assumption) ?_
            try simp only [Act.put, List.setIfInBounds_toArray, List.set_cons_zero, List.set_cons_succ]
            refine idleL 9 rfl (by kernel_rfl) (by kernel_rfl) (by kernel_rfl) (fun _ _ _ h => h) (by rfl) (by assumption) ?_
            try simp only [Act.put, List.setIfInBounds_toArray, List.set_cons_zero, List.set_cons_succ]
            refine idleL 10 rfl (by kernel_rfl) (by kernel_rfl) (by kernel_rfl) (fun _ _ _ h => h) (by rfl) (by assumption) ?_
            try simp only [Act.put, List.setIfInBounds_toArray, List.set_cons_zero, List.set_cons_succ]
            refine idleL 11 rfl (by kernel_rfl) (by kernel_rfl) (by kernel_rfl) (fun _ _ _ h => h) (by rfl) (by assumption) ?_
            try simp only [Act.put, List.setIfInBounds_toArray, List.set_cons_zero, List.set_cons_succ]
            refine idleL 12 rfl (by kernel_rfl) (by kernel_rfl) (by kernel_rfl) (fun _ _ _ h => h) (by rfl) (by assumption) ?_
            try simp only [Act.put, List.setIfInBounds_toArray, List.set_cons_zero, List.set_cons_succ]
            refine idleL 13 rfl (by kernel_rfl) (by kernel_rfl) (by kernel_rfl) (fun _ _ _ h => h) (by rfl) (by assumption) ?_
            try simp only [Act.put, List.setIfInBounds_toArray, List.set_cons_zero, List.set_cons_succ]
            refine idleL 14 rfl (by kernel_rfl) (by kernel_rfl) (by kernel_rfl) (fun _ _ _ h => h) (by rfl) (by assumption) ?_
            try simp only [Act.put, List.setIfInBounds_toArray, List.set_cons_zero, List.set_cons_succ]
            refine idleL 15 rfl (by kernel_rfl) (by kernel_rfl) (by kernel_rfl) (fun _ _ _ h => h) (by rfl) (by assumption) ?_
            try simp only [Act.put, List.setIfInBounds_toArray, List.set_cons_zero, List.set_cons_succ]
            refine takeL 16 (v := ?_) rfl (by kernel_rfl) (by kernel_rfl) (by kernel_rfl) (fun _ _ _ h => h) (by rfl) (by assumption) ?_ ?_
            rotate_left
            · (intro w hSw; (try dsimp only at hSw); (subst hSw); go_simp <;> with_reducible rfl)
            try simp only [Act.put, List.setIfInBounds_toArray, List.set_cons_zero, List.set_cons_succ]
            refine wpAnyH_done (by kernel_rfl) ?_ _
            obtain ⟨v', w3, hrun, ho2, hgg, hn2, _⟩ := appE spT ((ownSp_iff.1 hu).drew.alloc (.cells (spE (x, 1)).toArray (63 : Nat))) (one_span2 w2.drew x 1) (by simp; omega) (by first | (simp; done) | (simp at hll ⊢; omega)) (by simp)
            have hB3 := Lib.hid ((hB2.drew.alloc hB2.drew.size (.cells (spE (x, 1)).toArray (63 : Nat))).grown hgg (by simp; omega) (fun j hj => ((ownSp_iff.1 hu).lt j hj).1))
            replace ho2 := Lib.hid (ownSp_iff.2 ho2)
            simp only [spE] at hrun
            clear hu hgg hn2
            go_wp2_with (at_builtin; refine wpList_append_run rfl _ _ 57 rfl _ _ _ rfl rfl hrun ?_)
            go_roundw
            case rel => exact ⟨k + 1, ⟨_, true⟩, by omega, by first | (rw [← e1.out]) | (rw [← e1.out]; go_num), hT2.out.symm, ho2.out, hB3.out⟩
            case measure => have hxx := hxe.out; simp [intOf]; omega
          · rw [List.concat_eq_append] at hoy
            subst hoy
            obtain ⟨q, hq⟩ : ∃ q, o.length = q := ⟨_, rfl⟩
            have hq9 : q ≤ 1000 := by simp at hll; omega
            obtain ⟨g, cap, rfl, hg1, hg2, hcap⟩ := (ownSp_iff.1 hu).form (by simp)
            rw [show (o ++ [y]).length = q + 1 by simp [hq]] at hu hcap ⊢
            have hy1 : a ≤ y.1 := iL y (by simp)
            have hy2 : 1 ≤ y.2 := iR.1 y (by simp)
            have hyx : y.1 + y.2 < x := by have := iC.out rfl y (by simp); have := hxe.out; omega
            have hy3 : y.2 ≤ 1000 := by omega
            have hy4 : y.1 ≤ 1000 := by omega
            have hsub : (q : Int) + 1 - 1 = (q : Int) := by omega
            have hlt1 : (q : Int) < (q : Int) + 1 := by omega
            have hge : decide ((0 : Int) ≤ (q : Int)) = true := decide_eq_true (by omega)
            have hwa : IntKind.i64.wrap (y.1 + y.2) = y.1 + y.2 := by rw [IntKind.wrap_i64]; omega
            have hbb : (y.1 + y.2 == x) = false := by rw [beq_eq_false_iff_ne]; omega
            clear iL iR iC
            go_wp2_with (first
              | (go_at_call 89; refine ho.mono ?_; rintro e w1 ⟨rfl, hb1⟩
                 have hB1 := hB.trans (hb1.mono hsz)
                 have hh := hHas.out x w1 hB1 hx0 hx1
                 rw [hp2.out] at hh
                 have cr1 := cellK c2 hB1
                 replace hu := hu.keep hb1
                 clear ho hb1)
              | (go_at_call 90; refine hh.mono ?_; rintro e w2 ⟨rfl, hb2⟩
                 have hB2 := hB1.trans (hb2.mono hB1.size)
                 replace hu := hu.keep hb2
                 have hsz2 := hB2.size
                 obtain ⟨z0, z1⟩ := own_last hu hq
                 replace z0 : w2.drew.cell? ⟨g, q * 2, none⟩ = some (.int .i64 y.1) := z0
                 replace z1 : w2.drew.cell? ⟨g, q * 2 + 1, none⟩ = some (.int .i64 y.2) := z1
                 clear hh hb2))
            refine wp_region_held_drew (S := (fun w' => w' = w2.drew)) (by kernel_rfl) ?_ (fun hHeld => ?_)
            · (try dsimp only)
              all_goals rfl
            refine takeL 0 (v := ?_) rfl (by kernel_rfl) (by kernel_rfl) (by kernel_rfl) (fun _ _ _ h => h) (by rfl) (by assumption) ?_ ?_
            rotate_left
            · (intro w hSw; (try dsimp only at hSw); (subst hSw); go_simp <;> with_reducible rfl)
            try simp only [Act.put, List.setIfInBounds_toArray, List.set_cons_zero, List.set_cons_succ]
            refine takeL 1 (v := ?_) rfl (by kernel_rfl) (by kernel_rfl) (by kernel_rfl) (fun _ _ _ h => h) (by rfl) (by assumption) ?_ ?_
            rotate_left
            · (intro w hSw; (try dsimp only at hSw); (subst hSw); go_simp <;> with_reducible rfl)
            try simp only [Act.put, List.setIfInBounds_toArray, List.set_cons_zero, List.set_cons_succ]
            refine takeL 2 (v := ?_) rfl (by kernel_rfl) (by kernel_rfl) (by kernel_rfl) (fun _ _ _ h => h) (by rfl) (by assumption) ?_ ?_
            rotate_left
            · (intro w hSw; (try dsimp only at hSw); (subst hSw); go_simp <;> with_reducible rfl)
            try simp only [Act.put, List.setIfInBounds_toArray, List.set_cons_zero, List.set_cons_succ]
            refine takeL 3 (v := ?_) rfl (by kernel_rfl) (by kernel_rfl) (by kernel_rfl) (fun _ _ _ h => h) (by rfl) (by assumption) ?_ ?_
            rotate_left
            · (intro w hSw; (try dsimp only at hSw); (subst hSw); go_simp <;> with_reducible rfl)
            try simp only [Act.put, List.setIfInBounds_toArray, List.set_cons_zero, List.set_cons_succ]
            refine takeL 4 (v := ?_) rfl (by kernel_rfl) (by kernel_rfl) (by kernel_rfl) (fun _ _ _ h => h) (by rfl) (by assumption) ?_ ?_
            rotate_left
            · (intro w hSw; (try dsimp only at hSw); (subst hSw); go_simp <;> with_reducible rfl)
            try simp only [Act.put, List.setIfInBounds_toArray, List.set_cons_zero, List.set_cons_succ]
            refine takeL 5 (v := ?_) rfl (by kernel_rfl) (by kernel_rfl) (by kernel_rfl) (fun _ _ _ h => h) (by rfl) (by assumption) ?_ ?_
            rotate_left
            · (intro w hSw; (try dsimp only at hSw); (subst hSw); go_simp <;> with_reducible rfl)
            try simp only [Act.put, List.setIfInBounds_toArray, List.set_cons_zero, List.set_cons_succ]
            refine takeL 6 (v := ?_) rfl (by kernel_rfl) (by kernel_rfl) (by kernel_rfl) (fun _ _ _ h => h) (by rfl) (by assumption) ?_ ?_
            rotate_left
            · (intro w hSw; (try dsimp only at hSw); (subst hSw); go_simp <;> with_reducible rfl)
            try simp only [Act.put, List.setIfInBounds_toArray, List.set_cons_zero, List.set_cons_succ]
            refine takeL 7 (v := ?_) rfl (by kernel_rfl) (by kernel_rfl) (by kernel_rfl) (fun _ _ _ h => h) (by rfl) (by assumption) ?_ ?_
            rotate_left
            · (intro w hSw; (try dsimp only at hSw); (subst hSw); go_simp <;> with_reducible rfl)
            try simp only [Act.put, List.setIfInBounds_toArray, List.set_cons_zero, List.set_cons_succ]
            refine takeL 8 (v := ?_) rfl (by kernel_rfl) (by kernel_rfl) (by kernel_rfl) (fun _ _ _ h => h) (by rfl) (by assumption) ?_ ?_
            rotate_left
            · (intro w hSw; (try dsimp only at hSw); (subst hSw); go_simp <;> with_reducible rfl)
            try simp only [Act.put, List.setIfInBounds_toArray, List.set_cons_zero, List.set_cons_succ]
            refine takeL 9 (v := ?_) rfl (by kernel_rfl) (by kernel_rfl) (by kernel_rfl) (fun _ _ _ h => h) (by rfl) (by assumption) ?_ ?_
            rotate_left
            · (intro w hSw; (try dsimp only at hSw); (subst hSw); go_simp <;> with_reducible rfl)
            try simp only [Act.put, List.setIfInBounds_toArray, List.set_cons_zero, List.set_cons_succ]
            refine takeL 10 (v := ?_) rfl (by kernel_rfl) (by kernel_rfl) (by kernel_rfl) (fun _ _ _ h => h) (by rfl) (by assumption) ?_ ?_
            rotate_left
            · (intro w hSw; (try dsimp only at hSw); (subst hSw); go_simp <;> with_reducible rfl)
            try simp only [Act.put, List.setIfInBounds_toArray, List.set_cons_zero, List.set_cons_succ]
            refine takeL 11 (v := ?_) rfl (by kernel_rfl) (by kernel_rfl) (by kernel_rfl) (fun _ _ _ h => h) (by rfl) (by assumption) ?_ ?_
            rotate_left
            · (intro w hSw; (try dsimp only at hSw); (subst hSw); go_simp <;> with_reducible rfl)
            try simp only [Act.put, List.setIfInBounds_toArray, List.set_cons_zero, List.set_cons_succ]
            refine takeL 12 (v := ?_) rfl (by kernel_rfl) (by kernel_rfl) (by kernel_rfl) (fun _ _ _ h => h) (by rfl) (by assumption) ?_ ?_
            rotate_left
            · (intro w hSw; (try dsimp only at hSw); (subst hSw); go_simp <;> with_reducible rfl)
            try simp only [Act.put, List.setIfInBounds_toArray, List.set_cons_zero, List.set_cons_succ]
            refine takeL 13 (v := ?_) rfl (by kernel_rfl) (by kernel_rfl) (by kernel_rfl) (fun _ _ _ h => h) (by rfl) (by assumption) ?_ ?_
            rotate_left
            · (intro w hSw; (try dsimp only at hSw); (subst hSw); go_simp <;> with_reducible rfl)
            try simp only [Act.put, List.setIfInBounds_toArray, List.set_cons_zero, List.set_cons_succ]
            refine takeL 14 (v := ?_) rfl (by kernel_rfl) (by kernel_rfl) (by kernel_rfl) (fun _ _ _ h => h) (by rfl) (by assumption) ?_ ?_
            rotate_left
            · (intro w hSw; (try dsimp only at hSw); (subst hSw); go_simp <;> with_reducible rfl)
            try simp only [Act.put, List.setIfInBounds_toArray, List.set_cons_zero, List.set_cons_succ]
            refine takeL 15 (v := ?_) rfl (by kernel_rfl) (by kernel_rfl) (by kernel_rfl) (fun _ _ _ h => h) (by rfl) (by assumption) ?_ ?_
            rotate_left
            · (intro w hSw; (try dsimp only at hSw); (subst hSw); go_simp <;> with_reducible rfl)
            try simp only [Act.put, List.setIfInBounds_toArray, List.set_cons_zero, List.set_cons_succ]
            refine takeL 16 (v := ?_) rfl (by kernel_rfl) (by kernel_rfl) (by kernel_rfl) (fun _ _ _ h => h) (by rfl) (by assumption) ?_ ?_
            rotate_left
            · (intro w hSw; (try dsimp only at hSw); (subst hSw); go_simp <;> with_reducible rfl)
            try simp only [Act.put, List.setIfInBounds_toArray, List.set_cons_zero, List.set_cons_succ]
            refine wpAnyH_done (by kernel_rfl) ?_ _
            obtain ⟨v', w3, hrun, ho2, hgg, hn2, _⟩ := appE spT ((ownSp_iff.1 hu).drew.alloc (.cells (spE (x, 1)).toArray (63 : Nat))) (one_span2 w2.drew x 1) (by simp; omega) (by first | (simp; done) | (simp at hll ⊢; omega)) (by simp)
            have hB3 := Lib.hid ((hB2.drew.alloc hB2.drew.size (.cells (spE (x, 1)).toArray (63 : Nat))).grown hgg (by simp; omega) (fun j hj => ((ownSp_iff.1 hu).lt j hj).1))
            replace ho2 := Lib.hid (ownSp_iff.2 ho2)
            simp only [spE] at hrun
            clear hu hgg hn2
            go_wp2_with (at_builtin; refine wpList_append_run rfl _ _ 57 rfl _ _ _ rfl rfl hrun ?_)
            go_roundw
            case rel => exact ⟨k + 1, ⟨_, true⟩, by omega, by first | (rw [← e1.out]) | (rw [← e1.out]; go_num), hT2.out.symm, ho2.out, hB3.out⟩
            case measure => have hxx := hxe.out; simp [intOf]; omega
    · obtain rfl : k = n := by omega
      obtain ⟨v', w5, hrun, ⟨f5, f6⟩, ⟨A5, cap5, rfl⟩, hu5, hG5⟩ := hClose.out wr _ hB (by rw [← hE.out, ← hT.out]; exact hu) (by rw [← hE.out]; have := hlen2.out k; omega)
      have hu6 := Lib.hid (hu5.mono (Nat.le_trans hb0.out.size (Nat.le_refl _)))
      replace hG5 := Lib.hid hG5
      obtain ⟨m5, hm5⟩ : ∃ m5, (r.words ++ newL r a k).length = m5 := ⟨_, rfl⟩
      rw [hm5] at hrun hu6 hG5
      clear hu5 hm5 hu
      go_wp2_with (at_builtin; refine wpList_append_run rfl _ _ 57 rfl _ _ _ rfl rfl hrun ?_)
      go_ret
      exact ⟨_, rfl, hu6.out, hG5.out⟩
end Go.Proofs.Ytcemiclbeocnjaa
