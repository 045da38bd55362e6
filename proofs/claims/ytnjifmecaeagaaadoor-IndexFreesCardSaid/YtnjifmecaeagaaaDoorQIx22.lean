/-
  The laws of package index: IndexFrees.
-/
import Derived.Test.YtnjifmecaeagaaaDoorQF
import Derived.Test.YtnjifmecaeagaaaDoorQG
set_option linter.unusedVariables false
set_option linter.unusedSimpArgs false
namespace Go.Proofs.YtnjifmecaeagaaaDoor
open Go.Lib Go.RowKit Go.ChangeShapes Go.WideShapes Go.Deep
set_option maxRecDepth 100000 in
set_option maxHeartbeats 4000000 in
theorem indexFrees (v : Value) (l : List Nat) (n : Nat) (w : World) (hw : Lw w) (hH : HL l) (hv : KL .u16 w v l) (hn : n < 65536) :
    Calls Tryd.prog 14 #[v, .int .u16 (n : Nat)] w fun e w' => e = .returned (.bool true) ∧ Below w.heap.size w w' := by
  have hAw := awake17 w hw
  obtain ⟨nn, hnn⟩ : ∃ n, l.length = n := ⟨_, rfl⟩
  obtain ⟨A, cap, rfl, _⟩ := hv.form hnn
  by_cases h40 : 40 < nn
  · have h40' : (40 : Int) < (nn : Int) := by omega
    clear hv hH hw
    replace hnn := Lib.hid hnn
    go_enter Tryd.func14, Tryd.ntmps14
    go_wp2_with fail
    refine hAw.mono ?_
    rintro e w1 ⟨rfl, hb1⟩
    go_wp2_with fail
    go_ret
    exact ⟨rfl, hb1⟩
  have h40' : ¬ (40 : Int) < (nn : Int) := by omega
  obtain ⟨q, hq⟩ : ∃ q, n % 700 = q := ⟨_, rfl⟩
  have hq9 : q ≤ 4096 := by omega
  have m1 : ((n : Nat) : Int) % 700 = (q : Int) := by omega
  have m2 : (((n : Nat) : Int)).tmod 700 = (q : Int) := by rw [Int.tmod_eq_emod_of_nonneg (by omega)]; exact m1
  replace hq := Lib.hid hq
  have hM1 := Lib.hid (fun w1 (hb : Below w.heap.size w w1) => made_any _ l 20 w1 (hw.keep hb) hH (hv.keep hb) (by omega) (by omega))
  have hwh := Lib.hid hw
  replace hnn := Lib.hid hnn
  clear hv hw hH h40
  go_enter Tryd.func14, Tryd.ntmps14
  go_wp2_with fail
  refine hAw.mono ?_
  rintro e w1 ⟨rfl, hb1⟩
  have hMa := hM1.out _ hb1
  rw [show (((20 : Nat) : Int)) = 20 from rfl] at hMa
  clear hAw hM1
  go_wp2_with fail
  refine hMa.mono ?_
  rintro e w2 ⟨v2, t, rfl, ho2, hrt, htl, hb2⟩
  have hB2 := hb1.trans (hb2.mono hb1.size)
  have hk2 := ho2.kl
  obtain ⟨tn, htn⟩ : ∃ k, t.length = k := ⟨_, rfl⟩
  obtain ⟨At, ct, rfl⟩ := ho2.sl htn
  have hNw := new_any _ t w2 (hwh.out.keep hB2) hk2 (rightT_WL hrt) (by omega)
  clear ho2 hMa hb1 hb2
  go_wp2_with fail
  refine hNw.mono ?_
  rintro e w3 ⟨hP, hb3⟩
  obtain ⟨B, vx, rfl, hS3⟩ := Sess.of_new hP hb3 hB2 hwh.out hrt (by omega)
  have hk3 := hk2.keep hb3
  clear hNw hP hk2
  clear hk3
  have hX := hS3.take hwh.out q hq9
  go_wp2_with fail
  clear m1 m2
  refine hX.mono ?_
  rintro e w4 ⟨S1, r, hT, he, hS4, hAt, _, _⟩
  clear hX
  cases r with
  | none =>
    replace he : e = .returned (.tuple #[plV 0 0 0 0 false, .int .i64 2]) := he
    subst he
    have hbel := hS4.bel
    clear hS3 hS4 hT hAt
    go_wp2_with fail
    go_ret
    exact ⟨rfl, hbel.alloc hbel.size _⟩
  | some p =>
    replace he : e = .returned (.tuple #[plV (p.ch : Nat) (p.ix : Nat) p.cl (p.mn : Nat) p.fr, .int .i64 0]) := he
    subst he
    have hta := hAt p rfl
    have hK := keep_ok hS4.ok hta
    have hF := free_ok hK.ok hK.live
    have hFa := Lib.hid (fun S4 r (h4 : TakeR (freeS (keepS S1 p.ch p.ix p.cl p.mn).2 p.ch p.ix p.cl p.mn).2 (ofN q) (chN q) S4 r) => frees_again hS3.ok (fun c h => ofN_lt h) (chN_bd hq9).1 (chN_bd hq9).2 hT h4)
    have pa := PlAt.new w4 p.ch p.ix p.cl p.mn p.fr
    have hn4 := hS4.notOwn (Nat.le_refl _)
    have hA := (Below.refl w4.heap.size w4).alloc (Nat.le_refl _) (.cells #[.int .i64 (p.ch : Nat), .int .i64 (p.ix : Nat), .int .i64 p.cl, .int .i64 (p.mn : Nat), .bool p.fr] 62)
    replace hS4 := hS4.keep hA
    have hX : Calls Tryd.prog 43 #[.pointer (some ⟨B, 0, none⟩), plV (p.ch : Nat) (p.ix : Nat) p.cl (p.mn : Nat) p.fr] _ _ := hS4.keepOk hwh.out hta
    obtain ⟨c0, c1, c2, c3, c4⟩ := pa.cells
    replace hK := Lib.hid hK
    replace hF := Lib.hid hF
    clear hA hT hAt hS3
    go_wp2_with fail
    generalize w4.heap.size = D at *
    refine hX.mono ?_
    rintro e w5 ⟨rfl, hS5, hC5⟩
    replace pa := pa.chg hC5 hn4
    have hX2 : Calls Tryd.prog 45 #[.pointer (some ⟨B, 0, none⟩), plV (p.ch : Nat) (p.ix : Nat) p.cl (p.mn : Nat) p.fr] _ _ := hS5.freeOk hwh.out hK.out.live
    clear hX hC5 hS4 c0 c1 c2 c3 c4
    obtain ⟨c0, c1, c2, c3, c4⟩ := pa.cells
    go_wp2_with fail
    refine hX2.mono ?_
    rintro e w6 ⟨rfl, hS6, hC6⟩
    replace pa := pa.chg hC6 hn4
    have hX3 : Calls Tryd.prog 45 #[.pointer (some ⟨B, 0, none⟩), plV (p.ch : Nat) (p.ix : Nat) p.cl (p.mn : Nat) p.fr] _ _ := hS6.freeNo hwh.out hF.out.noFree
    clear hX2 hC6 hS5 c0 c1 c2 c3 c4
    obtain ⟨c0, c1, c2, c3, c4⟩ := pa.cells
    go_wp2_with fail
    refine hX3.mono ?_
    rintro e w7 ⟨rfl, hS7, hC7⟩
    replace pa := pa.chg hC7 hn4
    have hX4 := hS7.take hwh.out q hq9
    clear hX3 hC7 hS6 c0 c1 c2 c3 c4
    go_wp2_with fail
    refine hX4.mono ?_
    rintro e w8 ⟨S8, r8, hT8, he, hS8, _, _, hC8⟩
    obtain ⟨p2, rfl, e1, e2, e3, e4⟩ := hFa.out _ _ hT8
    replace he : e = .returned (.tuple #[plV (p2.ch : Nat) (p2.ix : Nat) p2.cl (p2.mn : Nat) p2.fr, .int .i64 0]) := he
    rw [e1, e2, e3, e4] at he
    subst he
    replace pa := pa.chg hC8 hn4
    have pb := PlAt.new w8 p.ch p.ix p.cl p.mn p2.fr
    have hA := (Below.refl w8.heap.size w8).alloc (Nat.le_refl _) (.cells #[.int .i64 (p.ch : Nat), .int .i64 (p.ix : Nat), .int .i64 p.cl, .int .i64 (p.mn : Nat), .bool p2.fr] 62)
    replace pa := pa.keep hA
    obtain ⟨a0, a1, a2, a3, a4⟩ := pa.cells
    obtain ⟨b0, b1, b2, b3, b4⟩ := pb.cells
    have hbel := hS8.bel
    clear hX4 hC8 hS7 hS8 hT8 e1 e2 e3 e4 hFa hK hF hA pa pb
    go_wp2_with fail
    go_ret
    exact ⟨rfl, hbel.alloc hbel.size _⟩
end Go.Proofs.YtnjifmecaeagaaaDoor
