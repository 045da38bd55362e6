/-
  Package tile: TileWhole.
-/
import Derived.Test.YtnjifmecaeagaaaDoorSo9
import Derived.Test.YtnjifmecaeagaaaDoorSoW
import Derived.Test.YtnjifmecaeagaaaDoorTi10
import Derived.Laws.ShiftsVarLaws
import Derived.Laws.BitsAllLaws
set_option linter.unusedVariables false
set_option linter.unusedSimpArgs false
namespace Go.Proofs.YtnjifmecaeagaaaDoor
open Go.RowKit Go.ChangeShapes Go.WideShapes Go.Deep
/-- what lies in other blocks stays -/
structure Fr (g : Nat) (w w' : World) : Prop where
  cell : ∀ b o, b < w.heap.size → b ≠ g → w'.cell? ⟨b, o, none⟩ = w.cell? ⟨b, o, none⟩
  size : w.heap.size ≤ w'.heap.size
theorem Fr.refl (g : Nat) (w : World) : Fr g w w := ⟨fun _ _ _ _ => rfl, Nat.le_refl _⟩
theorem Fr.below {g : Nat} {w w1 w2 : World} (h : Fr g w w1) (hb : Below w1.heap.size w1 w2) : Fr g w w2 :=
  ⟨fun b o h1 h2 => by rw [(bcell hb).1 _ _ (Nat.lt_of_lt_of_le h1 h.size)]; exact h.cell b o h1 h2, Nat.le_trans h.size hb.size⟩
theorem Fr.set {g i : Nat} {w w1 : World} (h : Fr g w w1) (v : Value) : Fr g w (w1.setCell ⟨g, i, none⟩ v) :=
  ⟨fun b o h1 h2 => by rw [World.cell?_setCell_other _ _ _ _ (by intro e; simp only [Addr.mk.injEq] at e; exact h2 e.1.symm)]; exact h.cell b o h1 h2, by have := h.size; simpa using this⟩
theorem Fr.drew {g : Nat} {w w1 : World} (h : Fr g w w1) : Fr g w w1.drew := ⟨h.cell, h.size⟩
theorem SD.keep {w0 w w1 : World} {base g n cap : Nat} {d : List Nat} (h : SD w0 base g n cap d w) (hb : Below w.heap.size w w1) (hs : base ≤ w0.heap.size) : SD w0 base g n cap d w1 :=
  ⟨h.own.keep hb, h.len, h.kept.trans (hb.mono (Nat.le_trans hs h.kept.size)), h.low⟩
theorem SD.lt {w0 w : World} {base g n cap : Nat} {d : List Nat} (h : SD w0 base g n cap d w) : g < w.heap.size := (h.own.lt g rfl).2
/-- the places' state, and what else stands still -/
def SF (w0 : World) (base g n : Nat) (wz : World) (s : List Nat) (w : World) : Prop := SD w0 base g (n + 1) (n + 1) s w ∧ Fr g wz w
theorem SF.keep {w0 wz w w1 : World} {base g n : Nat} {s : List Nat} (h : SF w0 base g n wz s w) (hb : Below w.heap.size w w1) (hs : base ≤ w0.heap.size) : SF w0 base g n wz s w1 := ⟨h.1.keep hb hs, h.2.below hb⟩
theorem SF.set {w0 wz w : World} {base g n : Nat} {s : List Nat} (h : SF w0 base g n wz s w) (i x : Nat) (hi : i < n + 1) : SF w0 base g n wz (s.set i x) (w.setCell ⟨g, i, none⟩ (.int .i64 (x : Nat))) := ⟨h.1.set i x hi, h.2.set _⟩
theorem SF.drew {w0 wz w : World} {base g n : Nat} {s : List Nat} (h : SF w0 base g n wz s w) : SF w0 base g n wz s w.drew := ⟨h.1.drew, h.2.drew⟩
theorem ofI63 (a : Nat) (ha : a < 9223372036854775808) : (BitVec.ofInt 64 (a : Int)).toNat = a := by
  rw [BitVec.toNat_ofInt]; omega
theorem i64_and_nat (a b : Nat) (ha : a < 9223372036854775808) (hb : b < 9223372036854775808) : bits .and .i64 (a : Int) (b : Int) = ((a &&& b : Nat) : Int) := by
  have hx : a &&& b < 2 ^ 63 := Nat.and_lt_two_pow _ (by omega)
  show IntKind.i64.wrap ((BitVec.ofInt 64 (a : Int) &&& BitVec.ofInt 64 (b : Int)).toNat : Int) = _
  rw [BitVec.toNat_and, ofI63 a ha, ofI63 b hb, IntKind.wrap_i64]
  omega
theorem i64_or_nat (a b : Nat) (ha : a < 9223372036854775808) (hb : b < 9223372036854775808) : bits .or .i64 (a : Int) (b : Int) = ((a ||| b : Nat) : Int) := by
  have hx : a ||| b < 2 ^ 63 := Nat.or_lt_two_pow (by omega) (by omega)
  show IntKind.i64.wrap ((BitVec.ofInt 64 (a : Int) ||| BitVec.ofInt 64 (b : Int)).toNat : Int) = _
  rw [BitVec.toNat_or, ofI63 a ha, ofI63 b hb, IntKind.wrap_i64]
  omega
theorem wrap_is64 (n : Int) : IntKind.i64.wrap n = wrap64 n := by unfold wrap64; rw [IntKind.wrap_i64]
/-- a row's two cells -/
def D2 (w : World) (b x y : Nat) : Prop := w.cell? ⟨b, 0, none⟩ = some (.int .i64 (x : Nat)) ∧ w.cell? ⟨b, 1, none⟩ = some (.int .i64 (y : Nat))
theorem D2.new (w : World) (x y : Nat) (t : TypeId) : D2 (w.alloc (.cells #[.int .i64 (x : Nat), .int .i64 (y : Nat)] t)) w.heap.size x y := by
  refine ⟨?_, ?_⟩ <;> simp [go_sem]
theorem D2.set {w : World} {b x y g i : Nat} {v : Value} (h : D2 w b x y) (hne : ¬ b = g) : D2 (w.setCell ⟨g, i, none⟩ v) b x y := by
  obtain ⟨h0, h1⟩ := h
  refine ⟨?_, ?_⟩ <;> (rw [World.cell?_setCell_other _ _ _ _ (by intro e; simp only [Addr.mk.injEq] at e; exact hne e.1.symm)]; assumption)
theorem D2.drew {w : World} {b x y : Nat} (h : D2 w b x y) : D2 w.drew b x y := h
theorem LB.any {t : List Nat} {n lane : Nat} {L sB s : List Nat} (h : LB t n lane 0 L sB s) (L' : List Nat) : LB t n lane 0 L' sB s :=
  ⟨h.len, fun i a b c => h.yes i a b (c.elim .inl (fun ⟨q, q1, _⟩ => by omega)), fun i a b => h.no i a (fun ⟨c, d⟩ => b ⟨c, d.elim .inl (fun ⟨q, q1, _⟩ => by omega)⟩)⟩
/-- a block's three cells -/
def D3 (w : World) (b x y z : Nat) : Prop := w.cell? ⟨b, 0, none⟩ = some (.int .i64 (x : Nat)) ∧ w.cell? ⟨b, 1, none⟩ = some (.int .i64 (y : Nat)) ∧ w.cell? ⟨b, 2, none⟩ = some (.int .i64 (z : Nat))
theorem D3.new (w : World) (x y z : Nat) (t : TypeId) : D3 (w.alloc (.cells #[.int .i64 (x : Nat), .int .i64 (y : Nat), .int .i64 (z : Nat)] t)) w.heap.size x y z := by
  refine ⟨?_, ?_, ?_⟩ <;> simp [go_sem]
theorem D3.set {w : World} {b x y z g i : Nat} {v : Value} (h : D3 w b x y z) (hne : ¬ b = g) : D3 (w.setCell ⟨g, i, none⟩ v) b x y z := by
  obtain ⟨h0, h1, h2⟩ := h
  refine ⟨?_, ?_, ?_⟩ <;> (rw [World.cell?_setCell_other _ _ _ _ (by intro e; simp only [Addr.mk.injEq] at e; exact hne e.1.symm)]; assumption)
theorem D3.drew {w : World} {b x y z : Nat} (h : D3 w b x y z) : D3 w.drew b x y z := h
theorem zeros_cells (n : Nat) : (madeCells (Value.int .i64 0).cells (n * 1)).toList = (List.replicate n 0).flatMap eI := by
  rw [Nat.mul_one, show (madeCells (Value.int .i64 0).cells n).toList = List.replicate n (Value.int .i64 0) from toList_madeCells_one _ _]
  induction n with
  | zero => rfl
  | succ n ih => rw [List.replicate_succ, List.replicate_succ, List.flatMap_cons, ← ih]; rfl
set_option maxRecDepth 100000 in
set_option maxHeartbeats 4000000 in
theorem tileWhole (v : Value) (l : List Nat) (w : World) (hw : Lw w) (hH : HL l) (hv : KL .u16 w v l) :
    Calls Tryd.prog 5 #[v] w fun e w' => e = .returned (.bool true) ∧ Below w.heap.size w w' := by
  have hAw := awake11 w hw
  obtain ⟨nn, hnn⟩ : ∃ n, l.length = n := ⟨_, rfl⟩
  obtain ⟨A, cap, rfl, _⟩ := hv.form hnn
  by_cases h60 : 60 < nn
  · have h60' : (60 : Int) < (nn : Int) := by omega
    clear hv hw
    replace hnn := Lib.hid hnn
    go_enter Tryd.func5, Tryd.ntmps5
    go_wp2_with fail
    refine hAw.mono ?_
    rintro e w1 ⟨rfl, hb1⟩
    go_wp2_with fail
    go_ret
    exact ⟨rfl, hb1⟩
  have h60' : ¬ (60 : Int) < (nn : Int) := by omega
  have h60'' : decide ((60 : Int) < (nn : Int)) = false := decide_eq_false h60'
  have hM1 := Lib.hid (fun w1 (hb : Below w.heap.size w w1) => made_any _ l 40 w1 (hw.keep hb) hH (hv.keep hb) (by omega) (by omega))
  have hwh := Lib.hid hw
  replace hnn := Lib.hid hnn
  clear hv hw hH h60
  go_enter Tryd.func5, Tryd.ntmps5
  go_wp2_with fail
  refine hAw.mono ?_
  rintro e w1 ⟨rfl, hb1⟩
  have hMa := hM1.out _ hb1
  clear hAw hM1
  go_wp2_with fail
  refine hMa.mono ?_
  rintro e w2 ⟨v2, t, rfl, ho2, hrt, htl, hb2⟩
  have hB2 := Lib.hid (hb1.trans (hb2.mono hb1.size))
  have hk2 := Lib.hid ho2.kl
  obtain ⟨n, hn⟩ : ∃ k, t.length = k := ⟨_, rfl⟩
  obtain ⟨At, ct, rfl⟩ := ho2.sl hn
  have hWt := Lib.hid (rightT_WL hrt)
  have hok := Lib.hid (rightT_t hrt).1
  obtain ⟨sA, hSa, hSal, hFin⟩ := whole_safe hrt hn (by omega)
  have hn40 : n ≤ 40 := by omega
  replace hSa := Lib.hid hSa
  replace hSal := Lib.hid hSal
  replace hFin := Lib.hid hFin
  replace hrt := Lib.hid hrt
  replace hn := Lib.hid hn
  obtain ⟨base, hbase⟩ : ∃ b, w2.heap.size = b := ⟨_, rfl⟩
  obtain ⟨i0, hi, hz0, hz1, hz2⟩ := info_parts infoI
  have hbs := Lib.hid (show base ≤ w2.heap.size by omega)
  clear hMa hb1 hb2 ho2 htl
  replace hbase := Lib.hid hbase
  go_wp2_with (at_make; refine wpList_make_full _ rfl _ _ 40 rfl base 3 i0 (.int .i64 0) 1 Tryd.underlying40 hi hz0 hz1 .i64 .i64 _ _ (n + 1) rfl rfl (by simp) (by simp) (by rw [hz2]; omega) (by unfold maxLen; omega) hbs.out ?_; intro w3 hown hgr; replace hown := Lib.hid hown; replace hgr := Lib.hid hgr)
  have hB3 := Lib.hid (show Below base w2 w3 from by rw [← hbase.out]; exact (Below.refl _ _).grown hgr.out (Nat.le_refl _) (by simp))
  obtain ⟨g, hg⟩ : ∃ g, w2.heap.size = g := ⟨_, rfl⟩
  rw [hg] at hown ⊢
  have hgb : g = base := hg.symm.trans hbase.out
  have hS3 : SD w2 base g (n + 1) (n + 1) (List.replicate (n + 1) 0) w3 := by
    refine ⟨?_, by simp, hB3.out, by omega⟩
    have h := hown.out
    rw [zeros_cells] at h
    show w3.ownsRow base 3 1 _ (List.replicate (n + 1) 0).length _
    rw [List.length_replicate]
    exact h
  have hk3 := Lib.hid (fun (w' : World) (hb : Below base w2 w') => show KL .u64 w' (.slice At n ct) t from hk2.out.keep (by rw [hbase.out]; exact hb))
  have hBw := Lib.hid (fun (w' : World) (hb : Below base w2 w') => show Below w.heap.size w w' from hB2.out.trans (hb.mono (by rw [← hbase.out]; exact hB2.out.size)))
  have hgs := Lib.hid hg
  have hbl := blocksT_any _ t w3 (hwh.out.keep (hBw.out _ hB3.out)) (hk3.out _ hB3.out) hWt.out (by have := hn.out; omega)
  clear hown hgr hg
  refine hbl.mono ?_
  rintro e w4 ⟨v4, rfl, ho4, hb4⟩
  have hg3 := hS3.lt
  obtain ⟨NB, hNB⟩ : ∃ k, (blksT t).length = k := ⟨_, rfl⟩
  have hNB9 : NB ≤ 320 := by
    have h1 := hn.out
    have : (blksT t).length ≤ 320 := by
      unfold blksT
      split
      · have := blksFrom_len 0 t; omega
      · simp
    omega
  -- the blocks' cells stay, whatever becomes of the places
  have hcb := Lib.hid (show ∀ A c, v4 = .slice A NB c → ∀ w' p, Fr g w4 w' → p < NB → ∃ gb, A = some ⟨gb, 0, none⟩ ∧ NB ≤ c ∧ w'.cell? ⟨gb, p * 3, none⟩ = some (.int .i64 (((blksT t).getD p default).1 : Nat)) ∧ w'.cell? ⟨gb, p * 3 + 1, none⟩ = some (.int .i64 (((blksT t).getD p default).2.1 : Nat)) ∧ w'.cell? ⟨gb, p * 3 + 2, none⟩ = some (.int .i64 (((blksT t).getD p default).2.2 : Nat)) from by
    intro A c hv w' p hF hp
    obtain ⟨gb, cap', hv2, h1, h2, h3⟩ := ho4.form (by omega)
    rw [hv] at hv2
    simp only [Value.slice.injEq] at hv2
    obtain ⟨rfl, _, rfl⟩ := hv2
    rw [hv] at ho4
    have hl : (blksT t).length = NB := hNB
    rw [hl] at h3
    have q0 := (OwnE.cell (e := 44) (en := eB) eB_len ho4 hl hp (j := 0) (by decide)).1
    have q1 := (OwnE.cell (e := 44) (en := eB) eB_len ho4 hl hp (j := 1) (by decide)).1
    have q2 := (OwnE.cell (e := 44) (en := eB) eB_len ho4 hl hp (j := 2) (by decide)).1
    exact ⟨gb, rfl, h3, (hF.cell _ _ h2 (by omega)).trans q0, (hF.cell _ _ h2 (by omega)).trans q1, (hF.cell _ _ h2 (by omega)).trans q2⟩)
  obtain ⟨Ab, cb, rfl⟩ := slForm ho4 hNB
  have hS4 := Lib.hid (show SF w2 base g n w4 (List.replicate (n + 1) 0) w4 from ⟨hS3.keep hb4 hbs.out, Fr.refl _ _⟩)
  replace hcb := Lib.hid (hcb.out Ab cb rfl)
  obtain ⟨B, hBdef⟩ : ∃ B, blksT t = B := ⟨_, rfl⟩
  rw [hBdef] at hcb hSa hNB
  replace hNB := Lib.hid hNB
  clear hbl ho4 hb4 hS3 hg3 hgb hBdef hi hz0 hz1 hz2
  go_wp2_with fail
  go_loopw [30] (fun u wr => ∃ (p : Nat) (s : List Nat), p ≤ NB ∧ u = .int .i64 p ∧ Hid (SafeL n s (B.drop p) sA) ∧ Hid (SF w2 base g n w4 s wr)) (fun u _ => NB + 1 - (intOf u).toNat)
  case atStart => exact ⟨0, _, Nat.zero_le _, rfl, hSa, hS4⟩
  case round =>
    obtain ⟨p, s, hp, rfl, hS, hF⟩ := hrel
    by_cases hlt : p < NB
    · have hlt' : (p : Int) < (NB : Int) := by omega
      obtain ⟨gb, rfl, hcap, c0, c1, c2⟩ := hcb.out wr p hF.out.2 hlt
      have hdrop : B.drop p = B.getD p default :: B.drop (p + 1) := by
        rw [List.drop_eq_getElem_cons (by rw [hNB.out]; exact hlt), List.getD_eq_getElem?_getD, List.getElem?_eq_getElem (by rw [hNB.out]; exact hlt)]; rfl
      have hS1 := hS.out
      rw [hdrop] at hS1
      obtain ⟨⟨x0, x1, x2⟩, hx⟩ : ∃ b, B.getD p default = b := ⟨_, rfl⟩
      rw [hx] at hS1 c0 c1 c2
      obtain ⟨⟨k1, k2, k2b, k3, k4⟩, hS2⟩ := hS1
      simp only at k1 k2 k2b k3 k4 c0 c1 c2
      replace hS2 := Lib.hid hS2
      have hl1 := Lib.hid hF.out.1.len
      have hF5 := Lib.hid (hF.out.keep ((Below.refl wr.heap.size wr).alloc (Nat.le_refl _) (.cells #[.int .i64 (x0 : Nat), .int .i64 (x1 : Nat), .int .i64 (x2 : Nat)] 44)) hbs.out)
      have hne := hF.out.1.lt
      have i0 : ¬ (x0 : Int) < 0 := by omega
      have i1 : ¬ (x0 : Int) ≥ (n : Int) := by omega
      have i2 : ¬ (x1 : Int) < 0 := by omega
      have i3 : ¬ (x2 : Int) < 1 := by omega
      by_cases h32 : x2 < 32
      · obtain ⟨j1, j2, j3, j4⟩ := k3 h32
        have h32' : (x2 : Int) < 32 := by omega
        have hx0n : (x0 : Int) < ((n : Int) + 1) := by omega
        have hx0m : x0 < n + 1 := by omega
        obtain ⟨y, hy⟩ : ∃ y, s.getD x0 0 = y := ⟨_, rfl⟩
        rw [hy] at j2 j4
        have m1 : ((x1 : Int) + 1) * (x2 : Int) ≤ 32 := by
          have : (((x1 + 1) * x2 : Nat) : Int) ≤ 32 := by omega
          rwa [Int.natCast_mul] at this
        clear k3 k4 hdrop
        have hD := (D3.new wr x0 x1 x2 44)
        go_wp2_with fail
        obtain ⟨W5, hW5⟩ : ∃ W, wr.alloc (.cells #[.int .i64 (x0 : Nat), .int .i64 (x1 : Nat), .int .i64 (x2 : Nat)] 44) = W := ⟨_, rfl⟩
        rw [hW5] at hF5 hD ⊢
        obtain ⟨g5, hg5⟩ : ∃ q, wr.heap.size = q := ⟨_, rfl⟩
        rw [hg5] at hD hne ⊢
        replace hW5 := Lib.hid hW5
        replace hg5 := Lib.hid hg5
        have hS0 : SF w2 base g n w4 s W5.drew ∧ D3 W5.drew g5 x0 x1 x2 := ⟨hF5.out.drew, hD⟩
        obtain ⟨kk, hkk⟩ : ∃ k, 16 + x1 = k := ⟨_, rfl⟩
        rw [hkk] at j2
        obtain ⟨z, hz⟩ : ∃ z, y / 2 ^ kk = z := ⟨_, rfl⟩
        rw [hz] at j2
        obtain ⟨a1, ha1⟩ : ∃ a, y ||| 1 = a := ⟨_, rfl⟩
        obtain ⟨pw, hpw⟩ : ∃ a, 2 ^ kk = a := ⟨_, rfl⟩
        obtain ⟨zz, hzz⟩ : ∃ a, a1 ||| pw = a := ⟨_, rfl⟩
        have hpb : pw ≤ 8388608 := by
          have h1 : (2 : Nat) ^ kk ≤ 2 ^ 23 := Nat.pow_le_pow_right (by omega) (by omega)
          have h2 : (2 : Nat) ^ 23 = 8388608 := by decide
          omega
        have ha1b : a1 < 2 ^ 30 := by rw [← ha1]; exact Nat.or_lt_two_pow (by omega) (by omega)
        have ha1c : a1 < 1073741824 := ha1b
        have ha1d : a1 < 9223372036854775808 := Nat.lt_trans ha1c (by decide)
        have hpwd : pw < 9223372036854775808 := Nat.lt_of_le_of_lt hpb (by decide)
        have e16 : (16 : Int) + (x1 : Int) = (kk : Int) := by omega
        have ew : IntKind.i64.wrap (kk : Int) = (kk : Int) := by rw [IntKind.wrap_i64]; omega
        have ew2 : IntKind.i64.wrap ((x1 : Int) + 1) = (x1 : Int) + 1 := by rw [IntKind.wrap_i64]; omega
        have ew4 : IntKind.i64.wrap (x0 : Int) = (x0 : Int) := by rw [IntKind.wrap_i64]; omega
        obtain ⟨mu, hmu⟩ : ∃ m : Nat, ((x1 : Int) + 1) * (x2 : Int) = (m : Int) := ⟨(x1 + 1) * x2, by rw [Int.natCast_mul]; rfl⟩
        rw [hmu] at m1
        have ew3 : IntKind.i64.wrap (mu : Int) = (mu : Int) := by rw [IntKind.wrap_i64]; omega
        have mu2 : ¬ (mu : Int) > 32 := by omega
        have hsh : (y : Int) / 2 ^ kk = (z : Int) := by rw [← hz, Int.natCast_ediv, Int.natCast_pow]; rfl
        have hshl : wrap64 ((2 : Int) ^ kk) = (pw : Int) := by
          rw [show (2 : Int) ^ kk = (pw : Int) by rw [← hpw, Int.natCast_pow]; rfl]
          clear hpw hzz ha1 hz hsh ha1b
          unfold wrap64
          omega
        have hand : bits .and .i64 (z : Int) 1 = 0 := by
          have h := i64_and_nat z 1 (by rw [← hz]; exact Nat.lt_of_le_of_lt (Nat.div_le_self _ _) (Nat.lt_trans j4 (by decide))) (by decide)
          rw [Nat.and_one_is_mod, j2] at h
          exact h
        have hor1 : bits .or .i64 (y : Int) 1 = (a1 : Int) := by
          have h := i64_or_nat y 1 (Nat.lt_trans j4 (by decide)) (by decide)
          rw [ha1] at h
          exact h
        have hor2 : bits .or .i64 (a1 : Int) (pw : Int) = (zz : Int) := by
          have h := i64_or_nat a1 pw ha1d hpwd
          rw [hzz] at h
          exact h
        have hshl2 : IntKind.i64.wrap ((2 : Int) ^ kk) = (pw : Int) := (wrap_is64 _).trans hshl
        have hshlH := Lib.hid hshl
        have hor2H := Lib.hid hor2
        have hmk : mkB s (x0, x1, x2) = s.set x0 zz := by
          unfold mkB
          rw [if_pos h32]
          show s.set x0 (s.getD x0 0 ||| 1 ||| 2 ^ (16 + x1)) = _
          rw [hy, ha1, hkk, hpw, hzz]
        rw [hmk] at hS2
        have hcy := Lib.hid (fun (w' : World) (h : SF w2 base g n w4 s w') => show w'.cell? ⟨g, x0, none⟩ = some (.int .i64 (y : Nat)) ∧ w'.frozen? ⟨g, x0, none⟩ = false from by have c := h.1.cell x0 hx0m; rw [hy] at c; exact c)
        replace hy := Lib.hid hy
        clear c0 c1 c2 hkk hz ha1 hpw hzz hmk ha1b j2
        refine wp_region_held_drew (S := (fun w' => SF w2 base g n w4 s w' ∧ D3 w' g5 x0 x1 x2)) (by kernel_rfl) ?_ (fun hHeld => ?_)
        · (try dsimp only)
          (first | exact hS0 | exact hHeld)
        refine takeL 0 (v := ?_) rfl (by kernel_rfl) (by kernel_rfl) (by kernel_rfl) (fun _ _ _ h => h) (by rfl) (by assumption) ?_ ?_
        rotate_left
        · (intro w hSw; (try dsimp only at hSw); (obtain ⟨hq1, q0, q1, q2⟩ := hSw; have p0 := (hcy.out _ hq1).1); go_simp <;> with_reducible rfl)
        try simp only [Act.put, List.setIfInBounds_toArray, List.set_cons_zero, List.set_cons_succ]
        refine takeL 1 (v := ?_) rfl (by kernel_rfl) (by kernel_rfl) (by kernel_rfl) (fun _ _ _ h => h) (by rfl) (by assumption) ?_ ?_
        rotate_left
        · (intro w hSw; (try dsimp only at hSw); (obtain ⟨hq1, q0, q1, q2⟩ := hSw; have p0 := (hcy.out _ hq1).1); go_simp <;> with_reducible rfl)
        try simp only [Act.put, List.setIfInBounds_toArray, List.set_cons_zero, List.set_cons_succ]
        refine takeL 2 (v := ?_) rfl (by kernel_rfl) (by kernel_rfl) (by kernel_rfl) (fun _ _ _ h => h) (by rfl) (by assumption) ?_ ?_
        rotate_left
        · (intro w hSw; (try dsimp only at hSw); (obtain ⟨hq1, q0, q1, q2⟩ := hSw; have p0 := (hcy.out _ hq1).1); go_simp <;> with_reducible rfl)
        try simp only [Act.put, List.setIfInBounds_toArray, List.set_cons_zero, List.set_cons_succ]
        refine takeL 3 (v := ?_) rfl (by kernel_rfl) (by kernel_rfl) (by kernel_rfl) (fun _ _ _ h => h) (by rfl) (by assumption) ?_ ?_
        rotate_left
        · (intro w hSw; (try dsimp only at hSw); (obtain ⟨hq1, q0, q1, q2⟩ := hSw; have p0 := (hcy.out _ hq1).1); go_simp <;> with_reducible rfl)
        try simp only [Act.put, List.setIfInBounds_toArray, List.set_cons_zero, List.set_cons_succ]
        refine takeL 4 (v := ?_) rfl (by kernel_rfl) (by kernel_rfl) (by kernel_rfl) (fun _ _ _ h => h) (by rfl) (by assumption) ?_ ?_
        rotate_left
        · (intro w hSw; (try dsimp only at hSw); (obtain ⟨hq1, q0, q1, q2⟩ := hSw; have p0 := (hcy.out _ hq1).1); go_simp <;> with_reducible rfl)
        try simp only [Act.put, List.setIfInBounds_toArray, List.set_cons_zero, List.set_cons_succ]
        refine takeL 5 (v := ?_) rfl (by kernel_rfl) (by kernel_rfl) (by kernel_rfl) (fun _ _ _ h => h) (by rfl) (by assumption) ?_ ?_
        rotate_left
        · (intro w hSw; (try dsimp only at hSw); (obtain ⟨hq1, q0, q1, q2⟩ := hSw; have p0 := (hcy.out _ hq1).1); go_simp <;> with_reducible rfl)
        try simp only [Act.put, List.setIfInBounds_toArray, List.set_cons_zero, List.set_cons_succ]
        refine takeL 6 (v := ?_) rfl (by kernel_rfl) (by kernel_rfl) (by kernel_rfl) (fun _ _ _ h => h) (by rfl) (by assumption) ?_ ?_
        rotate_left
        · (intro w hSw; (try dsimp only at hSw); (obtain ⟨hq1, q0, q1, q2⟩ := hSw; have p0 := (hcy.out _ hq1).1); go_simp <;> with_reducible rfl)
        try simp only [Act.put, List.setIfInBounds_toArray, List.set_cons_zero, List.set_cons_succ]
        refine takeL 7 (v := ?_) rfl (by kernel_rfl) (by kernel_rfl) (by kernel_rfl) (fun _ _ _ h => h) (by rfl) (by assumption) ?_ ?_
        rotate_left
        · (intro w hSw; (try dsimp only at hSw); (obtain ⟨hq1, q0, q1, q2⟩ := hSw; have p0 := (hcy.out _ hq1).1); go_simp <;> with_reducible rfl)
        try simp only [Act.put, List.setIfInBounds_toArray, List.set_cons_zero, List.set_cons_succ]
        refine takeL 8 (v := ?_) rfl (by kernel_rfl) (by kernel_rfl) (by kernel_rfl) (fun _ _ _ h => h) (by rfl) (by assumption) ?_ ?_
        rotate_left
        · (intro w hSw; (try dsimp only at hSw); (obtain ⟨hq1, q0, q1, q2⟩ := hSw; have p0 := (hcy.out _ hq1).1); go_simp <;> with_reducible rfl)
        try simp only [Act.put, List.setIfInBounds_toArray, List.set_cons_zero, List.set_cons_succ]
        refine takeL 9 (v := ?_) rfl (by kernel_rfl) (by kernel_rfl) (by kernel_rfl) (fun _ _ _ h => h) (by rfl) (by assumption) ?_ ?_
        rotate_left
        · (intro w hSw; (try dsimp only at hSw); (obtain ⟨hq1, q0, q1, q2⟩ := hSw; have p0 := (hcy.out _ hq1).1); go_simp <;> with_reducible rfl)
        try simp only [Act.put, List.setIfInBounds_toArray, List.set_cons_zero, List.set_cons_succ]
        refine takeL 10 (v := ?_) rfl (by kernel_rfl) (by kernel_rfl) (by kernel_rfl) (fun _ _ _ h => h) (by rfl) (by assumption) ?_ ?_
        rotate_left
        · (intro w hSw; (try dsimp only at hSw); (obtain ⟨hq1, q0, q1, q2⟩ := hSw; have p0 := (hcy.out _ hq1).1); go_simp <;> with_reducible rfl)
        try simp only [Act.put, List.setIfInBounds_toArray, List.set_cons_zero, List.set_cons_succ]
        refine takeL 11 (v := ?_) rfl (by kernel_rfl) (by kernel_rfl) (by kernel_rfl) (fun _ _ _ h => h) (by rfl) (by assumption) ?_ ?_
        rotate_left
        · (intro w hSw; (try dsimp only at hSw); (obtain ⟨hq1, q0, q1, q2⟩ := hSw; have p0 := (hcy.out _ hq1).1); go_simp <;> with_reducible rfl)
        try simp only [Act.put, List.setIfInBounds_toArray, List.set_cons_zero, List.set_cons_succ]
        refine takeL 12 (v := ?_) rfl (by kernel_rfl) (by kernel_rfl) (by kernel_rfl) (fun _ _ _ h => h) (by rfl) (by assumption) ?_ ?_
        rotate_left
        · (intro w hSw; (try dsimp only at hSw); (obtain ⟨hq1, q0, q1, q2⟩ := hSw; have p0 := (hcy.out _ hq1).1); go_simp <;> with_reducible rfl)
        try simp only [Act.put, List.setIfInBounds_toArray, List.set_cons_zero, List.set_cons_succ]
        refine takeL 13 (v := ?_) rfl (by kernel_rfl) (by kernel_rfl) (by kernel_rfl) (fun _ _ _ h => h) (by rfl) (by assumption) ?_ ?_
        rotate_left
        · (intro w hSw; (try dsimp only at hSw); (obtain ⟨hq1, q0, q1, q2⟩ := hSw; have p0 := (hcy.out _ hq1).1); go_simp <;> with_reducible rfl)
        try simp only [Act.put, List.setIfInBounds_toArray, List.set_cons_zero, List.set_cons_succ]
        refine takeL 14 (v := ?_) rfl (by kernel_rfl) (by kernel_rfl) (by kernel_rfl) (fun _ _ _ h => h) (by rfl) (by assumption) ?_ ?_
        rotate_left
        · (intro w hSw; (try dsimp only at hSw); (obtain ⟨hq1, q0, q1, q2⟩ := hSw; have p0 := (hcy.out _ hq1).1); go_simp <;> with_reducible rfl)
        try simp only [Act.put, List.setIfInBounds_toArray, List.set_cons_zero, List.set_cons_succ]
        refine takeL 15 (v := ?_) rfl (by kernel_rfl) (by kernel_rfl) (by kernel_rfl) (fun _ _ _ h => h) (by rfl) (by assumption) ?_ ?_
        rotate_left
        · (intro w hSw; (try dsimp only at hSw); (obtain ⟨hq1, q0, q1, q2⟩ := hSw; have p0 := (hcy.out _ hq1).1); go_simp <;> with_reducible rfl)
        try simp only [Act.put, List.setIfInBounds_toArray, List.set_cons_zero, List.set_cons_succ]
        refine takeL 16 (v := ?_) rfl (by kernel_rfl) (by kernel_rfl) (by kernel_rfl) (fun _ _ _ h => h) (by rfl) (by assumption) ?_ ?_
        rotate_left
        · (intro w hSw; (try dsimp only at hSw); (obtain ⟨hq1, q0, q1, q2⟩ := hSw; have p0 := (hcy.out _ hq1).1); go_simp <;> with_reducible rfl)
        try simp only [Act.put, List.setIfInBounds_toArray, List.set_cons_zero, List.set_cons_succ]
        refine takeL 17 (v := ?_) rfl (by kernel_rfl) (by kernel_rfl) (by kernel_rfl) (fun _ _ _ h => h) (by rfl) (by assumption) ?_ ?_
        rotate_left
        · (intro w hSw; (try dsimp only at hSw); (obtain ⟨hq1, q0, q1, q2⟩ := hSw; have p0 := (hcy.out _ hq1).1); go_simp <;> with_reducible rfl)
        try simp only [Act.put, List.setIfInBounds_toArray, List.set_cons_zero, List.set_cons_succ]
        refine takeL 18 (v := ?_) rfl (by kernel_rfl) (by kernel_rfl) (by kernel_rfl) (fun _ _ _ h => h) (by rfl) (by assumption) ?_ ?_
        rotate_left
        · (intro w hSw; (try dsimp only at hSw); (obtain ⟨hq1, q0, q1, q2⟩ := hSw; have p0 := (hcy.out _ hq1).1); go_simp <;> with_reducible rfl)
        try simp only [Act.put, List.setIfInBounds_toArray, List.set_cons_zero, List.set_cons_succ]
        refine takeL 19 (v := ?_) rfl (by kernel_rfl) (by kernel_rfl) (by kernel_rfl) (fun _ _ _ h => h) (by rfl) (by assumption) ?_ ?_
        rotate_left
        · (intro w hSw; (try dsimp only at hSw); (obtain ⟨hq1, q0, q1, q2⟩ := hSw; have p0 := (hcy.out _ hq1).1); go_simp <;> with_reducible rfl)
        try simp only [Act.put, List.setIfInBounds_toArray, List.set_cons_zero, List.set_cons_succ]
        refine wpAnyH_done (by kernel_rfl) ?_ _
        (try simp only [Exit.inBlock, Exit.then])
        go_wp2_with fail
        have hS1 := hHeld
        clear hS0 hHeld
        refine wp_region_tail (S := (fun w' => SF w2 base g n w4 s w' ∧ D3 w' g5 x0 x1 x2)) (n := 15) (by kernel_rfl) ?_ (fun hHeld hInv => ?_) (by decide)
        · (try dsimp only)
          (first | exact ⟨hS1.1.drew, hS1.2⟩ | exact hHeld)
        refine takeS 0 (v := ?_) (tailAt (by kernel_rfl)) hInv (by decide) rfl (by kernel_rfl) (by kernel_rfl) (by kernel_rfl) (fun _ _ _ h => h) (by rfl) (by assumption) ?_ (fun hInv2 => ?_)
        rotate_left
        · (intro w hSw; (try dsimp only at hSw); (obtain ⟨hq1, q0, q1, q2⟩ := hSw; have p0 := (hcy.out _ hq1).1); go_simp <;> with_reducible rfl)
        clear hInv
        have hInv := hInv2
        clear hInv2
        try simp only [Act.put, List.setIfInBounds_toArray, List.set_cons_zero, List.set_cons_succ] at hInv ⊢
        refine takeS 1 (v := ?_) (tailAt (by kernel_rfl)) hInv (by decide) rfl (by kernel_rfl) (by kernel_rfl) (by kernel_rfl) (fun _ _ _ h => h) (by rfl) (by assumption) ?_ (fun hInv2 => ?_)
        rotate_left
        · (intro w hSw; (try dsimp only at hSw); (obtain ⟨hq1, q0, q1, q2⟩ := hSw; have p0 := (hcy.out _ hq1).1); go_simp <;> with_reducible rfl)
        clear hInv
        have hInv := hInv2
        clear hInv2
        try simp only [Act.put, List.setIfInBounds_toArray, List.set_cons_zero, List.set_cons_succ] at hInv ⊢
        refine takeS 2 (v := ?_) (tailAt (by kernel_rfl)) hInv (by decide) rfl (by kernel_rfl) (by kernel_rfl) (by kernel_rfl) (fun _ _ _ h => h) (by rfl) (by assumption) ?_ (fun hInv2 => ?_)
        rotate_left
        · (intro w hSw; (try dsimp only at hSw); (obtain ⟨hq1, q0, q1, q2⟩ := hSw; have p0 := (hcy.out _ hq1).1); go_simp <;> with_reducible rfl)
        clear hInv
        have hInv := hInv2
        clear hInv2
        try simp only [Act.put, List.setIfInBounds_toArray, List.set_cons_zero, List.set_cons_succ] at hInv ⊢
        refine takeS 3 (v := ?_) (tailAt (by kernel_rfl)) hInv (by decide) rfl (by kernel_rfl) (by kernel_rfl) (by kernel_rfl) (fun _ _ _ h => h) (by rfl) (by assumption) ?_ (fun hInv2 => ?_)
        rotate_left
        · (intro w hSw; (try dsimp only at hSw); (obtain ⟨hq1, q0, q1, q2⟩ := hSw; have p0 := (hcy.out _ hq1).1); go_simp <;> with_reducible rfl)
        clear hInv
        have hInv := hInv2
        clear hInv2
        try simp only [Act.put, List.setIfInBounds_toArray, List.set_cons_zero, List.set_cons_succ] at hInv ⊢
        refine takeS 4 (v := ?_) (tailAt (by kernel_rfl)) hInv (by decide) rfl (by kernel_rfl) (by kernel_rfl) (by kernel_rfl) (fun _ _ _ h => h) (by rfl) (by assumption) ?_ (fun hInv2 => ?_)
        rotate_left
        · (intro w hSw; (try dsimp only at hSw); (obtain ⟨hq1, q0, q1, q2⟩ := hSw; have p0 := (hcy.out _ hq1).1); go_simp <;> with_reducible rfl)
        clear hInv
        have hInv := hInv2
        clear hInv2
        try simp only [Act.put, List.setIfInBounds_toArray, List.set_cons_zero, List.set_cons_succ] at hInv ⊢
        refine takeS 5 (v := ?_) (tailAt (by kernel_rfl)) hInv (by decide) rfl (by kernel_rfl) (by kernel_rfl) (by kernel_rfl) (fun _ _ _ h => h) (by rfl) (by assumption) ?_ (fun hInv2 => ?_)
        rotate_left
        · (intro w hSw; (try dsimp only at hSw); (obtain ⟨hq1, q0, q1, q2⟩ := hSw; have p0 := (hcy.out _ hq1).1); go_simp <;> with_reducible rfl)
        clear hInv
        have hInv := hInv2
        clear hInv2
        try simp only [Act.put, List.setIfInBounds_toArray, List.set_cons_zero, List.set_cons_succ] at hInv ⊢
        refine takeS 6 (v := ?_) (tailAt (by kernel_rfl)) hInv (by decide) rfl (by kernel_rfl) (by kernel_rfl) (by kernel_rfl) (fun _ _ _ h => h) (by rfl) (by assumption) ?_ (fun hInv2 => ?_)
        rotate_left
        · (intro w hSw; (try dsimp only at hSw); (obtain ⟨hq1, q0, q1, q2⟩ := hSw; have p0 := (hcy.out _ hq1).1); go_simp <;> with_reducible rfl)
        clear hInv
        have hInv := hInv2
        clear hInv2
        try simp only [Act.put, List.setIfInBounds_toArray, List.set_cons_zero, List.set_cons_succ] at hInv ⊢
        refine takeS 7 (v := ?_) (tailAt (by kernel_rfl)) hInv (by decide) rfl (by kernel_rfl) (by kernel_rfl) (by kernel_rfl) (fun _ _ _ h => h) (by rfl) (by assumption) ?_ (fun hInv2 => ?_)
        rotate_left
        · (intro w hSw; (try dsimp only at hSw); (obtain ⟨hq1, q0, q1, q2⟩ := hSw; have p0 := (hcy.out _ hq1).1); go_simp <;> with_reducible rfl)
        clear hInv
        have hInv := hInv2
        clear hInv2
        try simp only [Act.put, List.setIfInBounds_toArray, List.set_cons_zero, List.set_cons_succ] at hInv ⊢
        refine takeS 8 (v := ?_) (tailAt (by kernel_rfl)) hInv (by decide) rfl (by kernel_rfl) (by kernel_rfl) (by kernel_rfl) (fun _ _ _ h => h) (by rfl) (by assumption) ?_ (fun hInv2 => ?_)
        rotate_left
        · (intro w hSw; (try dsimp only at hSw); (obtain ⟨hq1, q0, q1, q2⟩ := hSw; have p0 := (hcy.out _ hq1).1); go_simp <;> with_reducible rfl)
        clear hInv
        have hInv := hInv2
        clear hInv2
        try simp only [Act.put, List.setIfInBounds_toArray, List.set_cons_zero, List.set_cons_succ] at hInv ⊢
        refine takeS 9 (v := ?_) (tailAt (by kernel_rfl)) hInv (by decide) rfl (by kernel_rfl) (by kernel_rfl) (by kernel_rfl) (fun _ _ _ h => h) (by rfl) (by assumption) ?_ (fun hInv2 => ?_)
        rotate_left
        · (intro w hSw; (try dsimp only at hSw); (obtain ⟨hq1, q0, q1, q2⟩ := hSw; have p0 := (hcy.out _ hq1).1); go_simp <;> with_reducible rfl)
        clear hInv
        have hInv := hInv2
        clear hInv2
        try simp only [Act.put, List.setIfInBounds_toArray, List.set_cons_zero, List.set_cons_succ] at hInv ⊢
        refine takeS 10 (v := ?_) (tailAt (by kernel_rfl)) hInv (by decide) rfl (by kernel_rfl) (by kernel_rfl) (by kernel_rfl) (fun _ _ _ h => h) (by rfl) (by assumption) ?_ (fun hInv2 => ?_)
        rotate_left
        · (intro w hSw; (try dsimp only at hSw); (obtain ⟨hq1, q0, q1, q2⟩ := hSw; have p0 := (hcy.out _ hq1).1); go_simp <;> with_reducible rfl)
        clear hInv
        have hInv := hInv2
        clear hInv2
        try simp only [Act.put, List.setIfInBounds_toArray, List.set_cons_zero, List.set_cons_succ] at hInv ⊢
        refine takeS 11 (v := ?_) (tailAt (by kernel_rfl)) hInv (by decide) rfl (by kernel_rfl) (by kernel_rfl) (by kernel_rfl) (fun _ _ _ h => h) (by rfl) (by assumption) ?_ (fun hInv2 => ?_)
        rotate_left
        · (intro w hSw; (try dsimp only at hSw); (obtain ⟨hq1, q0, q1, q2⟩ := hSw; have p0 := (hcy.out _ hq1).1); go_simp <;> with_reducible rfl)
        clear hInv
        have hInv := hInv2
        clear hInv2
        try simp only [Act.put, List.setIfInBounds_toArray, List.set_cons_zero, List.set_cons_succ] at hInv ⊢
        refine takeS 12 (v := ?_) (tailAt (by kernel_rfl)) hInv (by decide) rfl (by kernel_rfl) (by kernel_rfl) (by kernel_rfl) (fun _ _ _ h => h) (by rfl) (by assumption) ?_ (fun hInv2 => ?_)
        rotate_left
        · (intro w hSw; (try dsimp only at hSw); (obtain ⟨hq1, q0, q1, q2⟩ := hSw; have p0 := (hcy.out _ hq1).1); go_simp <;> with_reducible rfl)
        clear hInv
        have hInv := hInv2
        clear hInv2
        try simp only [Act.put, List.setIfInBounds_toArray, List.set_cons_zero, List.set_cons_succ] at hInv ⊢
        refine takeS 13 (v := ?_) (tailAt (by kernel_rfl)) hInv (by decide) rfl (by kernel_rfl) (by kernel_rfl) (by kernel_rfl) (fun _ _ _ h => h) (by rfl) (by assumption) ?_ (fun hInv2 => ?_)
        rotate_left
        · (intro w hSw; (try dsimp only at hSw); (obtain ⟨hq1, q0, q1, q2⟩ := hSw; have p0 := (hcy.out _ hq1).1); go_simp <;> with_reducible rfl)
        clear hInv
        have hInv := hInv2
        clear hInv2
        try simp only [Act.put, List.setIfInBounds_toArray, List.set_cons_zero, List.set_cons_succ] at hInv ⊢
        refine takeS 14 (v := ?_) (tailAt (by kernel_rfl)) hInv (by decide) rfl (by kernel_rfl) (by kernel_rfl) (by kernel_rfl) (fun _ _ _ h => h) (by rfl) (by assumption) ?_ (fun hInv2 => ?_)
        rotate_left
        · (intro w hSw; (try dsimp only at hSw); (obtain ⟨hq1, q0, q1, q2⟩ := hSw; have p0 := (hcy.out _ hq1).1); go_simp <;> with_reducible rfl)
        clear hInv
        have hInv := hInv2
        clear hInv2
        try simp only [Act.put, List.setIfInBounds_toArray, List.set_cons_zero, List.set_cons_succ] at hInv ⊢
        refine lastS 15 rfl (by decide) (by kernel_rfl) (fun K hK => ?_)
        obtain ⟨c5, f5⟩ := hcy.out _ hHeld.1
        go_simp
        refine hK.out _ _ ?_
        clear hK K
        refine wpAnyS_done (by kernel_rfl) ?_ _
        have hS9 := Lib.hid (hS1.1.set x0 zz hx0m)
        (try simp only [Exit.inBlock, Exit.then])
        (try rw [hshlH.out])
        (try rw [hor2H.out])
        go_wp2_with fail
        go_roundw
        case rel => exact ⟨p + 1, s.set x0 zz, by omega, by go_num, hS2, (by first | exact hS9.out | exact hS9.out.drew | exact hS9.out.drew.drew)⟩
        case measure => first | (simp [intOf]; done) | (simp [intOf]; omega)
      · obtain ⟨j1, j2, j3⟩ := k4 h32
        subst j1
        have h32' : ¬ (x2 : Int) < 32 := by omega
        obtain ⟨M, hM⟩ : ∃ M, x2 / 32 = M := ⟨_, rfl⟩
        rw [hM] at j2 j3
        have hM2 : (x2 : Int) / 32 = (M : Int) := by omega
        have hM3 : (x2 : Int).tdiv 32 = (M : Int) := by rw [Int.tdiv_eq_ediv_of_nonneg (by omega)]; exact hM2
        have hmk : mkB s (x0, 0, x2) = setR s x0 2 M := by
          unfold mkB
          rw [if_neg h32]
          show setR s x0 2 (x2 / 32) = _
          rw [hM]
        rw [hmk] at hS2
        have hz0 := Lib.hid (fun k (hk : k < M) => show (setR s x0 2 k).getD (x0 + k) 0 = 0 from by
          rw [setR_at s x0 2 k (by rw [hl1.out]; omega), if_neg (by omega)]; exact j3 k hk)
        have hD : D3 (wr.alloc (.cells #[.int .i64 (x0 : Nat), .int .i64 0, .int .i64 (x2 : Nat)] 44)) wr.heap.size x0 0 x2 := (D3.new wr x0 0 x2 44)
        replace hF5 : Hid (SF w2 base g n w4 s (wr.alloc (.cells #[.int .i64 (x0 : Nat), .int .i64 0, .int .i64 (x2 : Nat)] 44))) := hF5
        clear k3 k4 hdrop hM hmk j3
        go_wp2_with fail
        obtain ⟨W5, hW5⟩ : ∃ W, wr.alloc (.cells #[.int .i64 (x0 : Nat), .int .i64 0, .int .i64 (x2 : Nat)] 44) = W := ⟨_, rfl⟩
        rw [hW5] at hF5 hD ⊢
        obtain ⟨g5, hg5⟩ : ∃ q, wr.heap.size = q := ⟨_, rfl⟩
        rw [hg5] at hD hne ⊢
        have hne' : ¬ g5 = g := by omega
        replace hW5 := Lib.hid hW5
        replace hg5 := Lib.hid hg5
        clear c0 c1 c2
        go_loopw [8] (fun u wr2 => ∃ k : Nat, k ≤ M ∧ u = .int .i64 k ∧ Hid (SF w2 base g n w4 (setR s x0 2 k) wr2) ∧ Hid (D3 wr2 g5 x0 0 x2)) (fun u _ => M + 1 - (intOf u).toNat)
        case atStart => exact ⟨0, Nat.zero_le _, rfl, hF5, hD⟩
        case round =>
          obtain ⟨k, hk, rfl, hF2, hD2⟩ := hrel
          obtain ⟨d0, d1, d2⟩ := id hD2.out
          by_cases hkM : k < M
          · have hkM' : (k : Int) < (M : Int) := by omega
            obtain ⟨q, hq⟩ : ∃ q, x0 + k = q := ⟨_, rfl⟩
            have hq' : (x0 : Int) + (k : Int) = (q : Int) := by omega
            have hqn : ¬ (q : Int) ≥ (n : Int) := by omega
            have hqn2 : (q : Int) < (n : Int) + 1 := by omega
            have hqn3 : q < n + 1 := by omega
            have hzk := hz0.out k hkM
            rw [hq] at hzk
            obtain ⟨c5, f5⟩ := hF2.out.1.cell q hqn3
            rw [hzk] at c5
            have hS6 := Lib.hid (hF2.out.set q 2 hqn3)
            rw [← hq, show (setR s x0 2 k).set (x0 + k) 2 = setR s x0 2 (k + 1) from rfl, hq] at hS6
            have hD6 := Lib.hid (hD2.out.set hne' (i := q) (v := .int .i64 ((2 : Nat) : Int)))
            replace hq := Lib.hid hq
            clear hzk
            go_wp2_with fail
            go_roundw
            case rel => exact ⟨k + 1, by omega, by go_num, (by first | exact hS6.out | exact hS6.out.drew), (by first | exact hD6.out | exact hD6.out.drew)⟩
            case measure => first | (simp [intOf]; done) | (simp [intOf]; omega)
          · obtain rfl : k = M := by omega
            go_wp2_with fail
            go_roundw
            case rel => exact ⟨p + 1, _, by omega, by go_num, hS2, hF2⟩
            case measure => first | (simp [intOf]; done) | (simp [intOf]; omega)
    · obtain rfl : p = NB := by omega
      have hsA : s = sA := by
        have h := hS.out
        rw [List.drop_of_length_le (by rw [hNB.out]; exact Nat.le_refl _)] at h
        exact h
      subst hsA
      have hB5 := hF.out.1.kept
      have hrw := rowsT_any _ t wr (hwh.out.keep (hBw.out _ hB5)) (hk3.out _ hB5) hWt.out (by have := hn.out; omega)
      have hSD5 := Lib.hid hF.out.1
      clear hS hS4 hcb hF
      go_wp2_with fail
      refine hrw.mono ?_
      rintro e w7 ⟨v7, rfl, ho7, hb7⟩
      have hgw := hSD5.out.lt
      have hRe : rowsT t = rowsL (fT t) n := by unfold rowsT; rw [if_pos hok.out, hn.out]; rfl
      have hRk := rows_ok (fT t) n
      have hRl := rowsL_len (fT t) n
      rw [hRe] at ho7
      obtain ⟨R, hR⟩ : ∃ R, rowsL (fT t) n = R := ⟨_, rfl⟩
      rw [hR] at ho7 hRk hRl
      obtain ⟨NR, hNR⟩ : ∃ k, R.length = k := ⟨_, rfl⟩
      rw [hNR] at hRl
      have hcr := Lib.hid (show ∀ A c, v7 = .slice A NR c → ∀ w' p, Fr g w7 w' → p < NR → ∃ gb, A = some ⟨gb, 0, none⟩ ∧ NR ≤ c ∧ w'.cell? ⟨gb, p * 2, none⟩ = some (.int .i64 ((R.getD p default).1 : Nat)) ∧ w'.cell? ⟨gb, p * 2 + 1, none⟩ = some (.int .i64 ((R.getD p default).2 : Nat)) from by
        intro A c hv w' p hF hp
        obtain ⟨gb, cap', hv2, h1, h2, h3⟩ := ho7.form (by omega)
        rw [hv] at hv2
        simp only [Value.slice.injEq] at hv2
        obtain ⟨rfl, _, rfl⟩ := hv2
        rw [hv] at ho7
        rw [hNR] at h3
        have q0 := (OwnE.cell (e := 46) (en := eP) eP_len ho7 hNR hp (j := 0) (by decide)).1
        have q1 := (OwnE.cell (e := 46) (en := eP) eP_len ho7 hNR hp (j := 1) (by decide)).1
        exact ⟨gb, rfl, h3, (hF.cell _ _ h2 (by omega)).trans q0, (hF.cell _ _ h2 (by omega)).trans q1⟩)
      obtain ⟨Ar, cr, rfl⟩ := slForm ho7 hNR
      replace hcr := Lib.hid (hcr.out Ar cr rfl)
      have hS7 := Lib.hid (show SF w2 base g n w7 s w7 from ⟨hSD5.out.keep hb7 hbs.out, Fr.refl _ _⟩)
      have hRB := Lib.hid (RB.start R hSal.out)
      have hzA := Lib.hid (fun i (hi : i < n) (hf : fT t i = true) => show s.getD i 0 = 0 from by
        refine (hFin.out i hi).free ?_
        have hm : mayN (t.getD i 0) = true := hf
        unfold mayN at hm
        simp only [Bool.or_eq_true, decide_eq_true_eq] at hm
        rcases hm with h | h
        · exact .inl h
        · exact .inr (.inr h))
      replace hRk := Lib.hid hRk
      replace hNR := Lib.hid hNR
      replace hRe := Lib.hid hRe
      replace hR := Lib.hid hR
      clear hrw ho7 hb7 hgw hB5 hlt hp
      go_wp2_with fail
      go_loopw [126] (fun u wr => ∃ (p : Nat) (s3 : List Nat), p ≤ NR ∧ u = .int .i64 p ∧ Hid (RB R n p s s3) ∧ Hid (SF w2 base g n w7 s3 wr)) (fun u _ => NR + 1 - (intOf u).toNat)
      case atStart => exact ⟨0, s, Nat.zero_le _, rfl, hRB, hS7⟩
      case round =>
        obtain ⟨p, s3, hp, rfl, hB, hF⟩ := hrel
        by_cases hlt : p < NR
        · have hlt' : (p : Int) < (NR : Int) := by omega
          obtain ⟨gb, rfl, hcap, c0, c1⟩ := hcr.out wr p hF.out.2 hlt
          obtain ⟨⟨a, m⟩, hx⟩ : ∃ b, R.getD p default = b := ⟨_, rfl⟩
          rw [hx] at c0 c1
          simp only at c0 c1
          obtain ⟨hz1, hz2⟩ := hB.out.zero hRk.out (by rw [hNR.out]; exact hlt) hzA.out hx
          have hst := Lib.hid (hB.out.step hx hz1)
          have hl3 := Lib.hid hF.out.1.len
          have hz0 := Lib.hid (fun k (hk : k < m) => show (setR s3 a 4 k).getD (a + k) 0 = 0 from by
            rw [setR_at s3 a 4 k (by rw [hl3.out]; omega), if_neg (by omega)]; exact hz2 k hk)
          have hF5 := Lib.hid (hF.out.keep ((Below.refl wr.heap.size wr).alloc (Nat.le_refl _) (.cells #[.int .i64 (a : Nat), .int .i64 (m : Nat)] 46)) hbs.out)
          have hne := hF.out.1.lt
          have hD : D2 (wr.alloc (.cells #[.int .i64 (a : Nat), .int .i64 (m : Nat)] 46)) wr.heap.size a m := D2.new _ _ _ _
          have i0 : ¬ (a : Int) < 0 := by omega
          replace hx := Lib.hid hx
          clear hz2
          go_wp2_with fail
          obtain ⟨W5, hW5⟩ : ∃ W, wr.alloc (.cells #[.int .i64 (a : Nat), .int .i64 (m : Nat)] 46) = W := ⟨_, rfl⟩
          rw [hW5] at hF5 hD ⊢
          obtain ⟨g5, hg5⟩ : ∃ q, wr.heap.size = q := ⟨_, rfl⟩
          rw [hg5] at hD hne ⊢
          have hne' : ¬ g5 = g := by omega
          replace hW5 := Lib.hid hW5
          replace hg5 := Lib.hid hg5
          clear c0 c1
          go_loopw [11] (fun u wr2 => ∃ k : Nat, k ≤ m ∧ u = .int .i64 k ∧ Hid (SF w2 base g n w7 (setR s3 a 4 k) wr2) ∧ Hid (D2 wr2 g5 a m)) (fun u _ => m + 1 - (intOf u).toNat)
          case atStart => exact ⟨0, Nat.zero_le _, rfl, hF5, hD⟩
          case round =>
            obtain ⟨k, hk, rfl, hF2, hD2⟩ := hrel
            obtain ⟨d0, d1⟩ := id hD2.out
            by_cases hkM : k < m
            · have hkM' : (k : Int) < (m : Int) := by omega
              obtain ⟨q, hq⟩ : ∃ q, a + k = q := ⟨_, rfl⟩
              have hq' : (a : Int) + (k : Int) = (q : Int) := by omega
              have hqn : ¬ (q : Int) ≥ (n : Int) := by omega
              have hqn2 : (q : Int) < (n : Int) + 1 := by omega
              have hqn3 : q < n + 1 := by omega
              have hzk := hz0.out k hkM
              rw [hq] at hzk
              obtain ⟨c5, f5⟩ := hF2.out.1.cell q hqn3
              rw [hzk] at c5
              have hS6 := Lib.hid (hF2.out.set q 4 hqn3)
              rw [← hq, show (setR s3 a 4 k).set (a + k) 4 = setR s3 a 4 (k + 1) from rfl, hq] at hS6
              have hD6 := Lib.hid (hD2.out.set hne' (i := q) (v := .int .i64 ((4 : Nat) : Int)))
              replace hq := Lib.hid hq
              clear hzk
              go_wp2_with fail
              go_roundw
              case rel => exact ⟨k + 1, by omega, by go_num, (by first | exact hS6.out | exact hS6.out.drew), (by first | exact hD6.out | exact hD6.out.drew)⟩
              case measure => first | (simp [intOf]; done) | (simp [intOf]; omega)
            · obtain rfl : k = m := by omega
              go_wp2_with fail
              go_roundw
              case rel => exact ⟨p + 1, _, by omega, by go_num, hst, hF2⟩
              case measure => first | (simp [intOf]; done) | (simp [intOf]; omega)
        · obtain rfl : p = NR := by omega
          have hBd := Lib.hid (show ∀ i, i < n → s3.getD i 0 = if mayN (t.getD i 0) = true then 4 else s.getD i 0 from by
            have h := hB.out
            have e := hNR.out
            subst e
            exact h.done hRk.out)
          have hl3 := Lib.hid hB.out.len
          have hSD8 := Lib.hid hF.out.1
          have hz4 := Lib.hid (fun i (hi : i < n) (h4 : kN (t.getD i 0) = 4) => show s3.getD i 0 = 0 from by
            rw [hBd.out i hi, if_neg (by unfold mayN; simp only [Bool.or_eq_true, decide_eq_true_eq]; omega)]
            exact (hFin.out i hi).free (.inr (.inl h4)))
          have hL0 := Lib.hid (LB.start t [] (n := n) hl3.out)
          clear hB hF hcr hS7 hRB hzA hlt hp hRl
          go_wp2_with fail
          go_loopw [12] (fun u wr => ∃ (la : Nat) (s4 : List Nat), la ≤ 64 ∧ u = .int .i64 la ∧ Hid (LB t n la 0 [] s3 s4) ∧ Hid (SD w2 base g (n + 1) (n + 1) s4 wr)) (fun u _ => 65 - (intOf u).toNat)
          case atStart => exact ⟨0, s3, by omega, rfl, hL0, hSD8⟩
          case round =>
            obtain ⟨la, s4, hla, rfl, hLB, hSD⟩ := hrel
            by_cases hlt : la < 64
            · have hlt' : (la : Int) < 64 := by omega
              have hB5 := hSD.out.kept
              have hlg := logs_any _ t la wr (hwh.out.keep (hBw.out _ hB5)) (hk3.out _ hB5) hWt.out (by have := hn.out; omega) (by omega) (by omega)
              have hgw := hSD.out.lt
              go_wp2_with fail
              refine hlg.mono ?_
              rintro e w9 ⟨v9, rfl, ho9, hb9⟩
              have hLe : logsT t (la : Nat) = logsR t (la : Nat) 8 := by unfold logsT; rw [if_pos hok.out]
              have hLn := logsT_len9 t (la : Nat) (by have := hn.out; omega)
              obtain ⟨LL, hLL⟩ : ∃ LL, logsT t (la : Nat) = LL := ⟨_, rfl⟩
              rw [hLL] at ho9 hLe hLn
              obtain ⟨NL, hNL⟩ : ∃ k, LL.length = k := ⟨_, rfl⟩
              rw [hNL] at hLn
              have hcl := Lib.hid (show ∀ A c, v9 = .slice A NL c → ∀ w' p, Fr g w9 w' → p < NL → ∃ gb, A = some ⟨gb, 0, none⟩ ∧ NL ≤ c ∧ w'.cell? ⟨gb, p, none⟩ = some (.int .i64 (LL.getD p 0 : Nat)) from by
                intro A c hv w' p hF hp
                obtain ⟨gb, cap', hv2, h1, h2, h3⟩ := ho9.form (by omega)
                rw [hv] at hv2
                simp only [Value.slice.injEq] at hv2
                obtain ⟨rfl, _, rfl⟩ := hv2
                rw [hv] at ho9
                rw [hNL] at h3
                have q0 := (OwnE.cell (e := 3) (en := eI) eI_len ho9 hNL hp (j := 0) (by decide)).1
                refine ⟨gb, rfl, h3, (hF.cell _ _ h2 (by omega)).trans ?_⟩
                simpa [eI] using q0)
              obtain ⟨Al, cl, rfl⟩ := slForm ho9 hNL
              replace hcl := Lib.hid (hcl.out Al cl rfl)
              have hS9 := Lib.hid (show SF w2 base g n w9 s4 w9 from ⟨hSD.out.keep hb9 hbs.out, Fr.refl _ _⟩)
              have hLB2 := Lib.hid (hLB.out.any LL)
              replace hNL := Lib.hid hNL
              replace hLe := Lib.hid hLe
              replace hLL := Lib.hid hLL
              clear hlg ho9 hb9 hgw hB5
              go_wp2_with fail
              go_loopw [173] (fun u wr2 => ∃ (q : Nat) (s5 : List Nat), q ≤ NL ∧ u = .int .i64 q ∧ Hid (LB t n la q LL s3 s5) ∧ Hid (SF w2 base g n w9 s5 wr2)) (fun u _ => NL + 1 - (intOf u).toNat)
              case atStart => exact ⟨0, s4, Nat.zero_le _, rfl, hLB2, hS9⟩
              case round =>
                obtain ⟨q, s5, hq, rfl, hB, hF⟩ := hrel
                by_cases hlq : q < NL
                · have hlq' : (q : Int) < (NL : Int) := by omega
                  obtain ⟨gb, rfl, hcap, c0⟩ := hcl.out wr q hF.out.2 hlq
                  obtain ⟨ha1, ha2⟩ := hB.out.at hn.out hLe.out (by rw [hNL.out]; exact hlq) hz4.out
                  have hk4 : kN (t.getD (LL.getD q 0) 0) = 4 := by
                    have hm : LL.getD q 0 ∈ logsR t (la : Nat) 8 := by rw [← hLe.out]; exact getD_mem_ (by rw [hNL.out]; exact hlq)
                    exact (logsR_in hm).2.1
                  have hst := Lib.hid (hB.out.step hk4 ha1)
                  obtain ⟨i, hi⟩ : ∃ i, LL.getD q 0 = i := ⟨_, rfl⟩
                  rw [hi] at c0 ha1 ha2 hst
                  have hin2 : (i : Int) < (n : Int) + 1 := by omega
                  have hin3 : i < n + 1 := by omega
                  have hin4 : ¬ (i : Int) ≥ (n : Int) := by omega
                  have hin5 : ¬ (i : Int) < 0 := by omega
                  obtain ⟨c5, f5⟩ := hF.out.1.cell i hin3
                  rw [ha2] at c5
                  have hS6 := Lib.hid (hF.out.set i 8 hin3)
                  replace hi := Lib.hid hi
                  clear ha2 hk4
                  go_wp2_with fail
                  go_roundw
                  case rel => exact ⟨q + 1, _, by omega, by go_num, hst, (by first | exact hS6.out | exact hS6.out.drew)⟩
                  case measure => first | (simp [intOf]; done) | (simp [intOf]; omega)
                · obtain rfl : q = NL := by omega
                  have hlane := Lib.hid (show LB t n (la + 1) 0 [] s3 s5 from by
                    have h := hB.out
                    have e := hNL.out
                    subst e
                    exact h.lane hn.out hok.out hLe.out)
                  have hSDx := Lib.hid hF.out.1
                  go_wp2_with fail
                  go_roundw
                  case rel => exact ⟨la + 1, s5, by omega, by go_num, hlane, hSDx⟩
                  case measure => first | (simp [intOf]; done) | (simp [intOf]; omega)
            · obtain rfl : la = 64 := by omega
              have hne0 := Lib.hid (hLB.out.done hn.out hok.out hFin.out hBd.out)
              clear hLB hlt hla
              go_wp2_with fail
              go_loopw [15] (fun u wr => ∃ k : Nat, k ≤ n ∧ u = .int .i64 k ∧ Hid (SD w2 base g (n + 1) (n + 1) s4 wr)) (fun u _ => n + 1 - (intOf u).toNat)
              case atStart => exact ⟨0, Nat.zero_le _, rfl, hSD⟩
              case round =>
                obtain ⟨k, hk, rfl, hSDk⟩ := hrel
                by_cases hkn : k < n
                · have hkn' : (k : Int) < (n : Int) := by omega
                  have hkn2 : (k : Int) < (n : Int) + 1 := by omega
                  have hkn3 : k < n + 1 := by omega
                  obtain ⟨c5, f5⟩ := hSDk.out.cell k hkn3
                  have hnz := hne0.out k hkn
                  obtain ⟨y, hy⟩ : ∃ y, s4.getD k 0 = y := ⟨_, rfl⟩
                  rw [hy] at c5 hnz
                  have hnz' : ¬ (y : Int) = 0 := by omega
                  replace hy := Lib.hid hy
                  go_wp2_with fail
                  go_roundw
                  case rel => exact ⟨k + 1, by omega, by go_num, hSDk⟩
                  case measure => first | (simp [intOf]; done) | (simp [intOf]; omega)
                · have hfin := Lib.hid (hBw.out _ hSDk.out.kept)
                  go_wp2_with fail
                  go_ret
                  exact ⟨rfl, hfin.out⟩
end Go.Proofs.YtnjifmecaeagaaaDoor
