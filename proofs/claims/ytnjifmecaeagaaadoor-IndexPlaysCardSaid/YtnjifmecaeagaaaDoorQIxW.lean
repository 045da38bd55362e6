/-
  The law IndexPlays.
-/
import Derived.Test.YtnjifmecaeagaaaDoorQIxW0
import Derived.Test.YtnjifmecaeagaaaDoorTi10
set_option linter.unusedVariables false
set_option linter.unusedSimpArgs false
namespace Go.Proofs.YtnjifmecaeagaaaDoor
open Go.Lib Go.RowKit Go.ChangeShapes Go.WideShapes Go.Deep
set_option maxRecDepth 100000 in
set_option maxHeartbeats 4000000 in
theorem indexPlays (v u : Value) (l : List Nat) (z : List Iox) (w : World) (hw : Lw w) (hH : HL l) (hv : KL .u16 w v l) (hG : IOL z) (hu : IOPL w u z) :
    Calls Tryd.prog 9 #[v, u] w fun e w' => e = .returned (.bool true) ∧ Below w.heap.size w w' := by
  have hAw := awake17 w hw
  obtain ⟨nn, hnn⟩ : ∃ n, l.length = n := ⟨_, rfl⟩
  obtain ⟨A, cap, rfl, _⟩ := hv.form hnn
  obtain ⟨mm, hmm⟩ : ∃ n, z.length = n := ⟨_, rfl⟩
  obtain ⟨Az, capz, rfl, hZ⟩ := hu.form hmm
  by_cases h40 : 40 < nn
  · have h40' : (40 : Int) < (nn : Int) := by omega
    clear hv hH hw hu hG hZ
    replace hnn := Lib.hid hnn
    replace hmm := Lib.hid hmm
    go_enter Tryd.func9, Tryd.ntmps9
    go_wp2_with fail
    refine hAw.mono ?_
    rintro e w1 ⟨rfl, hb1⟩
    go_wp2_with fail
    go_ret
    exact ⟨rfl, hb1⟩
  have h40' : ¬ (40 : Int) < (nn : Int) := by omega
  by_cases hm40 : 40 < mm
  · have hm40' : (40 : Int) < (mm : Int) := by omega
    clear hv hH hw hu hG hZ
    replace hnn := Lib.hid hnn
    replace hmm := Lib.hid hmm
    go_enter Tryd.func9, Tryd.ntmps9
    go_wp2_with fail
    refine hAw.mono ?_
    rintro e w1 ⟨rfl, hb1⟩
    go_wp2_with fail
    go_ret
    exact ⟨rfl, hb1⟩
  have hm40' : ¬ (40 : Int) < (mm : Int) := by omega
  have hM1 := Lib.hid (fun w1 (hb : Below w.heap.size w w1) => made_any _ l 20 w1 (hw.keep hb) hH (hv.keep hb) (by omega) (by omega))
  have hwh := Lib.hid hw
  have hZx := Lib.hid (fun k (hk : k < mm) => show IOB (z.getD k default) from by
    rw [List.getD_eq_getElem?_getD, List.getElem?_eq_getElem (by omega)]; exact hG.2 _ (List.getElem_mem _))
  replace hZ := Lib.hid hZ
  replace hnn := Lib.hid hnn
  replace hmm := Lib.hid hmm
  clear hv hw hH h40 hu hG
  go_enter Tryd.func9, Tryd.ntmps9
  go_wp2_with fail
  refine hAw.mono ?_
  rintro e w1 ⟨rfl, hb1⟩
  have hMa := hM1.out _ hb1
  rw [show (((20 : Nat) : Int)) = 20 from rfl] at hMa
  clear hAw hM1
  go_wp2_with fail
  refine hMa.mono ?_
  rintro e w2 ⟨v2, t, rfl, ho2, hrt, htl, hb2⟩
  have hB2 := hb1.trans (hb2.mono hb1.size)
  have hk2 := ho2.kl
  obtain ⟨tn, htn⟩ : ∃ k, t.length = k := ⟨_, rfl⟩
  obtain ⟨At, ct, rfl⟩ := ho2.sl htn
  have hNw := new_any _ t w2 (hwh.out.keep hB2) hk2 (rightT_WL hrt) (by omega)
  clear ho2 hMa hb1 hb2
  go_wp2_with fail
  refine hNw.mono ?_
  rintro e w3 ⟨hP, hb3⟩
  obtain ⟨B, vx, rfl, hS3⟩ := Sess.of_new hP hb3 hB2 hwh.out hrt (by omega)
  have hB3 := hB2.trans (hb3.mono hB2.size)
  have hNd := dnew_any _ t w3 (hwh.out.keep hB3) (hk2.keep hb3) (rightT_WL hrt) (by omega) hrt
  clear hNw hP hk2 hB2
  go_wp2_with fail
  refine hNd.mono ?_
  rintro e w4 ⟨⟨By, vy, rfl, hY4⟩, hb4⟩
  have hBo : Both w w4 w3.heap.size w4.heap.size B By vx vy (.slice none 0 0) (t.map stN) [] :=
    ⟨hS3.keep hb4, hY4, OwnE.nil _ _ _ _ _, hS3.ix.box.lt, fun k q => (hS3.ix.row.lt k q).2, hY4.box.lt, fun k q => hY4.row.lt k q, hB3.size, hb4.size, Nat.le_refl _⟩
  obtain ⟨n3, hn3⟩ : ∃ n, w3.heap.size = n := ⟨_, rfl⟩
  obtain ⟨n4, hn4⟩ : ∃ n, w4.heap.size = n := ⟨_, rfl⟩
  rw [hn3, hn4] at hBo
  clear hNd hS3 hY4 hb3 hb4 hB3 hrt htl
  replace htn := Lib.hid htn
  replace hn3 := Lib.hid hn3
  replace hn4 := Lib.hid hn4
  go_wp2_with fail
  go_loopw [10, 9] (fun i vt wr => ∃ (j : Nat) (S : List St) (T : List Plc), j ≤ mm ∧ i = .int .i64 j ∧ T.length ≤ j ∧ Both w wr n3 n4 B By vx vy vt S T) (fun i _ _ => mm + 1 - (intOf i).toNat)
  case atStart => exact ⟨0, _, [], Nat.zero_le _, rfl, Nat.le_refl _, hBo⟩
  case round =>
    obtain ⟨j, S, T, hj, rfl, hTl, hBo⟩ := hrel
    obtain ⟨Lt, hLt⟩ : ∃ k, T.length = k := ⟨_, rfl⟩
    obtain ⟨Av, cv, rfl⟩ := slFormD hBo.t hLt
    by_cases hlt : j < mm
    · have hlt' : (j : Int) < (mm : Int) := by omega
      obtain ⟨g, off, rfl, hcz, _, o0, o1, o2, o3, o4, o5, o6, o7, o8, o9⟩ := hZ.out wr j hBo.x.bel hlt
      have hob := hZx.out j hlt
      obtain ⟨o, ho⟩ : ∃ o, z.getD j default = o := ⟨_, rfl⟩
      rw [ho] at hob o0 o1 o2 o3 o4 o5 o6 o7 o8 o9
      replace ho := Lib.hid ho
      have hA1 : Below wr.heap.size wr (wr.alloc (.cells #[.int .u8 o.kind, .int .i64 o.size, .int .i64 o.lane, .int .u8 o.which, .bool o.raw, .int .i64 o.ch, .int .i64 o.ix, .int .i64 o.cl, .int .i64 o.mn, .bool o.fr] 64)) := (Below.refl _ _).alloc (Nat.le_refl _) _
      have hO1 := OpAt.new wr o
      have hBo1 := hBo.keep hA1
      have hPl := place_any hBo1.t (by omega) o.kind o.size o.lane o.which o.raw o.ch o.ix o.cl o.mn o.fr hob.2.1.1 hob.2.1.2
      obtain ⟨⟨k0, k1⟩, _, hsz, hln, hch, _⟩ := hob
      have hn4w := hBo.n4w
      have hvtC := Lib.hid (fun k (q : Value.ownBlock (.slice Av Lt cv) = some k) => show k < wr.heap.size from (hBo.t.lt k q).2)
      clear hBo hA1
      replace hLt := Lib.hid hLt
      go_wp2_with fail
      refine hPl.mono ?_
      rintro e w5 ⟨⟨a, b, c, d, f, rfl⟩, hb5⟩
      have hBo5 := hBo1.keep hb5
      have hO5 := hO1.keep hb5
      obtain ⟨Co, hCo⟩ : ∃ Co, wr.heap.size = Co := ⟨_, rfl⟩
      (try rw [hCo])
      rw [hCo] at hO5 hvtC
      have hCn : n4 ≤ Co := by rw [← hCo]; exact hn4w
      clear hPl hBo1 hO1 hb5 hn4w
      replace hCo := Lib.hid hCo
      have hA6 : Below w5.heap.size w5 (w5.alloc (.cells #[.int .i64 a, .int .i64 b, .int .i64 c, .int .i64 d, .bool f] 62)) := (Below.refl _ _).alloc (Nat.le_refl _) _
      have hBo6 := hBo5.keep hA6
      have hO6 := hO5.keep hA6
      have hP6 := PlAt.new w5 a b c d f
      obtain ⟨Cp, hCp⟩ : ∃ Cp, w5.heap.size = Cp := ⟨_, rfl⟩
      rw [hCp] at hP6
      have hCpn : n4 ≤ Cp := by rw [← hCp]; exact hBo5.n4w
      have hCl := hO5.lt
      have hCl2 : ¬ Co = Cp := by omega
      rw [hCp] at hCl
      have hx6 : ∀ k, vx.ownBlock = some k → k < n4 := fun k q => Nat.lt_of_lt_of_le (hBo5.xv k q) hBo5.n34
      have hy6 : ∀ k, vy.ownBlock = some k → k < n4 := fun k q => (hBo5.yv k q).2
      obtain ⟨d0, d1, d2, d3, d4, d5, d6, d7, d8, d9⟩ := hO5.cells
      clear hO5 hBo5 hA6
      by_cases hkd : o.kind = 1
      · have hX := drop_any hBo6.x.ix hBo6.x.ok a b c d f (by have := hBo6.x.len; omega) hBo6.x.lw
        have hSk := dropS_ok hBo6.x.ok a b c d
        rw [hkd] at d0
        obtain ⟨r, hr⟩ : ∃ r, dropS S a b c d = r := ⟨_, rfl⟩
        rw [hr] at hX hSk
        go_wp2_with fail
        refine hX.mono ?_
        rintro e w7 ⟨rfl, hI7, hC7⟩
        have hx7 := hBo6.x.chg hI7 hC7 hSk.1 hSk.2 hwh.out
        obtain ⟨hy7, ht7⟩ := hBo6.afterX hC7
        have hO7 := hO6.chg hC7 (fun q => by have := hx6 _ q; omega)
        have hP7 := hP6.chg hC7 (fun q => by have := hx6 _ q; omega)
        have hY := ddrop_any hy7 hBo6.x.ok (by have := hBo6.x.len; omega) a b c d f
        rw [hr] at hY
        obtain ⟨p0, p1, p2, p3, p4⟩ := hP7.cells
        clear hX hI7 d0 d1 d2 d3 d4 d5 d6 d7 d8 d9
        go_wp2_with fail
        refine hY.mono ?_
        rintro e w8 ⟨rfl, hy8, hC8⟩
        have hBo8 := hBo6.afterY hwh.out hx7 ht7 hy8 hC7.size hC8
        have hO8 := hO7.chg hC8 (fun q => by have := hy6 _ q; omega)
        obtain ⟨d0, d1, d2, d3, d4, d5, d6, d7, d8, d9⟩ := hO8.cells
        rw [hkd] at d0
        clear hY hy7 ht7 hx7 hC7 hC8 hO7 hP7 hO6 hP6 hBo6 p0 p1 p2 p3 p4 hSk hO8
        replace hr := Lib.hid hr
        obtain ⟨S1, hS1⟩ : ∃ S1, r.2 = S1 := ⟨_, rfl⟩
        rw [hS1] at hBo8
        generalize r.1 = rb at *
        replace hS1 := Lib.hid hS1
        have hq1 := hBo8.x.table
        go_wp2_with fail
        refine hq1.mono ?_
        rintro e w31 ⟨⟨u1, rfl, ht1⟩, hb1⟩
        have hBo81 := hBo8.keep hb1
        clear hq1 hBo8
        have hq2 := dtable_any hBo81.y hBo81.x.ok (by have := hBo81.x.len; omega) hBo81.x.lw
        go_wp2_with fail
        refine hq2.mono ?_
        rintro e w32 ⟨⟨u2, rfl, ht2⟩, hb2⟩
        have hBo82 := hBo81.keep hb2
        have hq3 := words_any _ _ (tableS S1) (tableS S1) w32 (by rw [table_len]; have := hBo82.x.len; omega) (ht1.kl.keep hb2) ht2.kl
        rw [decide_eq_true rfl] at hq3
        clear hq2 hBo81
        go_wp2_with fail
        refine hq3.mono ?_
        rintro e w33 ⟨rfl, hb3⟩
        have hBo83 := hBo82.keep hb3
        clear hq3 hBo82 ht1 ht2
        have hq4 := hBo83.x.rows
        go_wp2_with fail
        refine hq4.mono ?_
        rintro e w34 ⟨⟨u3, rfl, ht3⟩, hb4⟩
        have hBo84 := hBo83.keep hb4
        clear hq4 hBo83
        have hq5 := drows_any hBo84.y hBo84.x.ok (by have := hBo84.x.len; omega)
        go_wp2_with fail
        refine hq5.mono ?_
        rintro e w35 ⟨⟨u4, rfl, ht4⟩, hb5⟩
        have hBo85 := hBo84.keep hb5
        have hq6 := sameSp _ _ (rowsS S1) (rowsS S1) w35 (by have := rowsS_lenD S1; have := hBo85.x.len; omega) ((ht3.keep hb5).el eP_len) (ht4.el eP_len)
        rw [decide_eq_true rfl] at hq6
        clear hq5 hBo84
        go_wp2_with fail
        refine hq6.mono ?_
        rintro e w36 ⟨rfl, hb6⟩
        have hBo86 := hBo85.keep hb6
        clear hq6 hBo85 ht3 ht4 hb1 hb2 hb3 hb4 hb5 hb6
        go_wp2_with fail
        go_roundw
        case rel => exact ⟨j + 1, S1, T, by omega, by go_num, (by have := hLt.out; omega), hBo86⟩
        case measure => first | (simp [intOf]; done) | (simp [intOf]; omega)
      by_cases hkd2 : o.kind = 2
      · have hX := keep_any hBo6.x.ix hBo6.x.ok a b c d f (by have := hBo6.x.len; omega) hBo6.x.lw
        have hSk := keepS_ok hBo6.x.ok a b c d
        rw [hkd2] at d0
        obtain ⟨r, hr⟩ : ∃ r, keepS S a b c d = r := ⟨_, rfl⟩
        rw [hr] at hX hSk
        go_wp2_with fail
        refine hX.mono ?_
        rintro e w7 ⟨rfl, hI7, hC7⟩
        have hx7 := hBo6.x.chg hI7 hC7 hSk.1 hSk.2 hwh.out
        obtain ⟨hy7, ht7⟩ := hBo6.afterX hC7
        have hO7 := hO6.chg hC7 (fun q => by have := hx6 _ q; omega)
        have hP7 := hP6.chg hC7 (fun q => by have := hx6 _ q; omega)
        have hY := dkeep_any hy7 hBo6.x.ok (by have := hBo6.x.len; omega) a b c d f
        rw [hr] at hY
        obtain ⟨p0, p1, p2, p3, p4⟩ := hP7.cells
        clear hX hI7 d0 d1 d2 d3 d4 d5 d6 d7 d8 d9
        go_wp2_with fail
        refine hY.mono ?_
        rintro e w8 ⟨rfl, hy8, hC8⟩
        have hBo8 := hBo6.afterY hwh.out hx7 ht7 hy8 hC7.size hC8
        have hO8 := hO7.chg hC8 (fun q => by have := hy6 _ q; omega)
        obtain ⟨d0, d1, d2, d3, d4, d5, d6, d7, d8, d9⟩ := hO8.cells
        rw [hkd2] at d0
        clear hY hy7 ht7 hx7 hC7 hC8 hO7 hP7 hO6 hP6 hBo6 p0 p1 p2 p3 p4 hSk hO8
        replace hr := Lib.hid hr
        obtain ⟨S1, hS1⟩ : ∃ S1, r.2 = S1 := ⟨_, rfl⟩
        rw [hS1] at hBo8
        generalize r.1 = rb at *
        replace hS1 := Lib.hid hS1
        have hq1 := hBo8.x.table
        go_wp2_with fail
        refine hq1.mono ?_
        rintro e w31 ⟨⟨u1, rfl, ht1⟩, hb1⟩
        have hBo81 := hBo8.keep hb1
        clear hq1 hBo8
        have hq2 := dtable_any hBo81.y hBo81.x.ok (by have := hBo81.x.len; omega) hBo81.x.lw
        go_wp2_with fail
        refine hq2.mono ?_
        rintro e w32 ⟨⟨u2, rfl, ht2⟩, hb2⟩
        have hBo82 := hBo81.keep hb2
        have hq3 := words_any _ _ (tableS S1) (tableS S1) w32 (by rw [table_len]; have := hBo82.x.len; omega) (ht1.kl.keep hb2) ht2.kl
        rw [decide_eq_true rfl] at hq3
        clear hq2 hBo81
        go_wp2_with fail
        refine hq3.mono ?_
        rintro e w33 ⟨rfl, hb3⟩
        have hBo83 := hBo82.keep hb3
        clear hq3 hBo82 ht1 ht2
        have hq4 := hBo83.x.rows
        go_wp2_with fail
        refine hq4.mono ?_
        rintro e w34 ⟨⟨u3, rfl, ht3⟩, hb4⟩
        have hBo84 := hBo83.keep hb4
        clear hq4 hBo83
        have hq5 := drows_any hBo84.y hBo84.x.ok (by have := hBo84.x.len; omega)
        go_wp2_with fail
        refine hq5.mono ?_
        rintro e w35 ⟨⟨u4, rfl, ht4⟩, hb5⟩
        have hBo85 := hBo84.keep hb5
        have hq6 := sameSp _ _ (rowsS S1) (rowsS S1) w35 (by have := rowsS_lenD S1; have := hBo85.x.len; omega) ((ht3.keep hb5).el eP_len) (ht4.el eP_len)
        rw [decide_eq_true rfl] at hq6
        clear hq5 hBo84
        go_wp2_with fail
        refine hq6.mono ?_
        rintro e w36 ⟨rfl, hb6⟩
        have hBo86 := hBo85.keep hb6
        clear hq6 hBo85 ht3 ht4 hb1 hb2 hb3 hb4 hb5 hb6
        go_wp2_with fail
        go_roundw
        case rel => exact ⟨j + 1, S1, T, by omega, by go_num, (by have := hLt.out; omega), hBo86⟩
        case measure => first | (simp [intOf]; done) | (simp [intOf]; omega)
      by_cases hkd3 : o.kind = 3
      · have hX := free_any hBo6.x.ix hBo6.x.ok a b c d f (by have := hBo6.x.len; omega) hBo6.x.lw
        have hSk := freeS_ok hBo6.x.ok a b c d
        rw [hkd3] at d0
        obtain ⟨r, hr⟩ : ∃ r, freeS S a b c d = r := ⟨_, rfl⟩
        rw [hr] at hX hSk
        go_wp2_with fail
        refine hX.mono ?_
        rintro e w7 ⟨rfl, hI7, hC7⟩
        have hx7 := hBo6.x.chg hI7 hC7 hSk.1 hSk.2 hwh.out
        obtain ⟨hy7, ht7⟩ := hBo6.afterX hC7
        have hO7 := hO6.chg hC7 (fun q => by have := hx6 _ q; omega)
        have hP7 := hP6.chg hC7 (fun q => by have := hx6 _ q; omega)
        have hY := dfree_any hy7 hBo6.x.ok (by have := hBo6.x.len; omega) a b c d f
        rw [hr] at hY
        obtain ⟨p0, p1, p2, p3, p4⟩ := hP7.cells
        clear hX hI7 d0 d1 d2 d3 d4 d5 d6 d7 d8 d9
        go_wp2_with fail
        refine hY.mono ?_
        rintro e w8 ⟨rfl, hy8, hC8⟩
        have hBo8 := hBo6.afterY hwh.out hx7 ht7 hy8 hC7.size hC8
        have hO8 := hO7.chg hC8 (fun q => by have := hy6 _ q; omega)
        obtain ⟨d0, d1, d2, d3, d4, d5, d6, d7, d8, d9⟩ := hO8.cells
        rw [hkd3] at d0
        clear hY hy7 ht7 hx7 hC7 hC8 hO7 hP7 hO6 hP6 hBo6 p0 p1 p2 p3 p4 hSk hO8
        replace hr := Lib.hid hr
        obtain ⟨S1, hS1⟩ : ∃ S1, r.2 = S1 := ⟨_, rfl⟩
        rw [hS1] at hBo8
        generalize r.1 = rb at *
        replace hS1 := Lib.hid hS1
        have hq1 := hBo8.x.table
        go_wp2_with fail
        refine hq1.mono ?_
        rintro e w31 ⟨⟨u1, rfl, ht1⟩, hb1⟩
        have hBo81 := hBo8.keep hb1
        clear hq1 hBo8
        have hq2 := dtable_any hBo81.y hBo81.x.ok (by have := hBo81.x.len; omega) hBo81.x.lw
        go_wp2_with fail
        refine hq2.mono ?_
        rintro e w32 ⟨⟨u2, rfl, ht2⟩, hb2⟩
        have hBo82 := hBo81.keep hb2
        have hq3 := words_any _ _ (tableS S1) (tableS S1) w32 (by rw [table_len]; have := hBo82.x.len; omega) (ht1.kl.keep hb2) ht2.kl
        rw [decide_eq_true rfl] at hq3
        clear hq2 hBo81
        go_wp2_with fail
        refine hq3.mono ?_
        rintro e w33 ⟨rfl, hb3⟩
        have hBo83 := hBo82.keep hb3
        clear hq3 hBo82 ht1 ht2
        have hq4 := hBo83.x.rows
        go_wp2_with fail
        refine hq4.mono ?_
        rintro e w34 ⟨⟨u3, rfl, ht3⟩, hb4⟩
        have hBo84 := hBo83.keep hb4
        clear hq4 hBo83
        have hq5 := drows_any hBo84.y hBo84.x.ok (by have := hBo84.x.len; omega)
        go_wp2_with fail
        refine hq5.mono ?_
        rintro e w35 ⟨⟨u4, rfl, ht4⟩, hb5⟩
        have hBo85 := hBo84.keep hb5
        have hq6 := sameSp _ _ (rowsS S1) (rowsS S1) w35 (by have := rowsS_lenD S1; have := hBo85.x.len; omega) ((ht3.keep hb5).el eP_len) (ht4.el eP_len)
        rw [decide_eq_true rfl] at hq6
        clear hq5 hBo84
        go_wp2_with fail
        refine hq6.mono ?_
        rintro e w36 ⟨rfl, hb6⟩
        have hBo86 := hBo85.keep hb6
        clear hq6 hBo85 ht3 ht4 hb1 hb2 hb3 hb4 hb5 hb6
        go_wp2_with fail
        go_roundw
        case rel => exact ⟨j + 1, S1, T, by omega, by go_num, (by have := hLt.out; omega), hBo86⟩
        case measure => first | (simp [intOf]; done) | (simp [intOf]; omega)
      by_cases hkd4 : o.kind = 4
      · have hX := takeLog_any hBo6.x.ix hBo6.x.ok (by have := hBo6.x.len; omega) o.lane o.size
        have hSk := takeLog_ok hBo6.x.ok o.lane o.size
        rw [hkd4] at d0
        obtain ⟨r, hr⟩ : ∃ r, takeLogS S o.lane o.size = r := ⟨_, rfl⟩
        rw [hr] at hX hSk
        go_wp2_with fail
        refine hX.mono ?_
        rintro e w7 ⟨rfl, hI7, hC7⟩
        have hx7 := hBo6.x.chg hI7 hC7 hSk.1 hSk.2 hwh.out
        obtain ⟨hy7, ht7⟩ := hBo6.afterX hC7
        have hO7 := hO6.chg hC7 (fun q => by have := hx6 _ q; omega)
        have hY := dtakeLog_any hy7 hBo6.x.ok (by have := hBo6.x.len; omega) o.lane o.size
        rw [hr] at hY
        clear hX hI7 d0 d1 d2 d3 d4 d5 d6 d7 d8 d9
        obtain ⟨d0, d1, d2, d3, d4, d5, d6, d7, d8, d9⟩ := hO7.cells
        rw [hkd4] at d0
        go_wp2_with fail
        refine hY.mono ?_
        rintro e w8 ⟨rfl, hy8, hC8⟩
        have hBo8 := hBo6.afterY hwh.out hx7 ht7 hy8 hC7.size hC8
        have hO8 := hO7.chg hC8 (fun q => by have := hy6 _ q; omega)
        clear d0 d1 d2 d3 d4 d5 d6 d7 d8 d9
        obtain ⟨d0, d1, d2, d3, d4, d5, d6, d7, d8, d9⟩ := hO8.cells
        rw [hkd4] at d0
        clear hY hy7 ht7 hx7 hC7 hC8 hO7 hO6 hP6 hBo6 hSk hO8
        replace hr := Lib.hid hr
        obtain ⟨S1, hS1⟩ : ∃ S1, r.2.2 = S1 := ⟨_, rfl⟩
        rw [hS1] at hBo8
        generalize r.1 = ra at *
        generalize r.2.1 = rb at *
        replace hS1 := Lib.hid hS1
        have hq1 := hBo8.x.table
        go_wp2_with fail
        refine hq1.mono ?_
        rintro e w31 ⟨⟨u1, rfl, ht1⟩, hb1⟩
        have hBo81 := hBo8.keep hb1
        clear hq1 hBo8
        have hq2 := dtable_any hBo81.y hBo81.x.ok (by have := hBo81.x.len; omega) hBo81.x.lw
        go_wp2_with fail
        refine hq2.mono ?_
        rintro e w32 ⟨⟨u2, rfl, ht2⟩, hb2⟩
        have hBo82 := hBo81.keep hb2
        have hq3 := words_any _ _ (tableS S1) (tableS S1) w32 (by rw [table_len]; have := hBo82.x.len; omega) (ht1.kl.keep hb2) ht2.kl
        rw [decide_eq_true rfl] at hq3
        clear hq2 hBo81
        go_wp2_with fail
        refine hq3.mono ?_
        rintro e w33 ⟨rfl, hb3⟩
        have hBo83 := hBo82.keep hb3
        clear hq3 hBo82 ht1 ht2
        have hq4 := hBo83.x.rows
        go_wp2_with fail
        refine hq4.mono ?_
        rintro e w34 ⟨⟨u3, rfl, ht3⟩, hb4⟩
        have hBo84 := hBo83.keep hb4
        clear hq4 hBo83
        have hq5 := drows_any hBo84.y hBo84.x.ok (by have := hBo84.x.len; omega)
        go_wp2_with fail
        refine hq5.mono ?_
        rintro e w35 ⟨⟨u4, rfl, ht4⟩, hb5⟩
        have hBo85 := hBo84.keep hb5
        have hq6 := sameSp _ _ (rowsS S1) (rowsS S1) w35 (by have := rowsS_lenD S1; have := hBo85.x.len; omega) ((ht3.keep hb5).el eP_len) (ht4.el eP_len)
        rw [decide_eq_true rfl] at hq6
        clear hq5 hBo84
        go_wp2_with fail
        refine hq6.mono ?_
        rintro e w36 ⟨rfl, hb6⟩
        have hBo86 := hBo85.keep hb6
        clear hq6 hBo85 ht3 ht4 hb1 hb2 hb3 hb4 hb5 hb6
        go_wp2_with fail
        go_roundw
        case rel => exact ⟨j + 1, S1, T, by omega, by go_num, (by have := hLt.out; omega), hBo86⟩
        case measure => first | (simp [intOf]; done) | (simp [intOf]; omega)
      by_cases hkd5 : o.kind = 5
      · have hX := dropLog_any hBo6.x.ix o.ch (by have := hBo6.x.len; omega)
        have hSk := dropLog_ok hBo6.x.ok o.ch
        rw [hkd5] at d0
        obtain ⟨r, hr⟩ : ∃ r, dropLogS S o.ch = r := ⟨_, rfl⟩
        rw [hr] at hX hSk
        go_wp2_with fail
        refine hX.mono ?_
        rintro e w7 ⟨rfl, hI7, hC7⟩
        have hx7 := hBo6.x.chg hI7 hC7 hSk.1 hSk.2 hwh.out
        obtain ⟨hy7, ht7⟩ := hBo6.afterX hC7
        have hO7 := hO6.chg hC7 (fun q => by have := hx6 _ q; omega)
        have hY := ddropLog_any hy7 (by have := hBo6.x.len; omega) o.ch
        rw [hr] at hY
        clear hX hI7 d0 d1 d2 d3 d4 d5 d6 d7 d8 d9
        obtain ⟨d0, d1, d2, d3, d4, d5, d6, d7, d8, d9⟩ := hO7.cells
        rw [hkd5] at d0
        go_wp2_with fail
        refine hY.mono ?_
        rintro e w8 ⟨rfl, hy8, hC8⟩
        have hBo8 := hBo6.afterY hwh.out hx7 ht7 hy8 hC7.size hC8
        clear hY hy7 ht7 hx7 hC7 hC8 hO7 hO6 hP6 hBo6 hSk
        replace hr := Lib.hid hr
        obtain ⟨S1, hS1⟩ : ∃ S1, r.2 = S1 := ⟨_, rfl⟩
        rw [hS1] at hBo8
        generalize r.1 = rb at *
        replace hS1 := Lib.hid hS1
        have hq1 := hBo8.x.table
        go_wp2_with fail
        refine hq1.mono ?_
        rintro e w31 ⟨⟨u1, rfl, ht1⟩, hb1⟩
        have hBo81 := hBo8.keep hb1
        clear hq1 hBo8
        have hq2 := dtable_any hBo81.y hBo81.x.ok (by have := hBo81.x.len; omega) hBo81.x.lw
        go_wp2_with fail
        refine hq2.mono ?_
        rintro e w32 ⟨⟨u2, rfl, ht2⟩, hb2⟩
        have hBo82 := hBo81.keep hb2
        have hq3 := words_any _ _ (tableS S1) (tableS S1) w32 (by rw [table_len]; have := hBo82.x.len; omega) (ht1.kl.keep hb2) ht2.kl
        rw [decide_eq_true rfl] at hq3
        clear hq2 hBo81
        go_wp2_with fail
        refine hq3.mono ?_
        rintro e w33 ⟨rfl, hb3⟩
        have hBo83 := hBo82.keep hb3
        clear hq3 hBo82 ht1 ht2
        have hq4 := hBo83.x.rows
        go_wp2_with fail
        refine hq4.mono ?_
        rintro e w34 ⟨⟨u3, rfl, ht3⟩, hb4⟩
        have hBo84 := hBo83.keep hb4
        clear hq4 hBo83
        have hq5 := drows_any hBo84.y hBo84.x.ok (by have := hBo84.x.len; omega)
        go_wp2_with fail
        refine hq5.mono ?_
        rintro e w35 ⟨⟨u4, rfl, ht4⟩, hb5⟩
        have hBo85 := hBo84.keep hb5
        have hq6 := sameSp _ _ (rowsS S1) (rowsS S1) w35 (by have := rowsS_lenD S1; have := hBo85.x.len; omega) ((ht3.keep hb5).el eP_len) (ht4.el eP_len)
        rw [decide_eq_true rfl] at hq6
        clear hq5 hBo84
        go_wp2_with fail
        refine hq6.mono ?_
        rintro e w36 ⟨rfl, hb6⟩
        have hBo86 := hBo85.keep hb6
        clear hq6 hBo85 ht3 ht4 hb1 hb2 hb3 hb4 hb5 hb6
        go_wp2_with fail
        go_roundw
        case rel => exact ⟨j + 1, S1, T, by omega, by go_num, (by have := hLt.out; omega), hBo86⟩
        case measure => first | (simp [intOf]; done) | (simp [intOf]; omega)
      by_cases hk0 : o.kind = 0
      · rw [hk0] at d0
        by_cases hzr : 0 ≤ o.size ∧ o.size ≤ 4096
        · obtain ⟨n, hn⟩ : ∃ n : Nat, o.size = (n : Int) := ⟨o.size.toNat, by omega⟩
          have hn9 : n ≤ 4096 := by omega
          rw [hn] at d1
          have hX := hBo6.x.take hwh.out n hn9
          have hSok := hBo6.x.ok
          replace hn := Lib.hid hn
          clear hzr
          go_wp2_with fail
          refine hX.mono ?_
          rintro e w7 ⟨S1, r, hT, he, hx7, hAt, _, hC7⟩
          clear hAt
          cases r with
          | none =>
            replace he : e = .returned (.tuple #[plV 0 0 0 0 false, .int .i64 2]) := he
            subst he
            have hQ7 := PlAt.new w7 0 0 0 0 false
            have hA7 : Below w7.heap.size w7 (w7.alloc (.cells #[.int .i64 0, .int .i64 0, .int .i64 0, .int .i64 0, .bool false] 62)) := (Below.refl _ _).alloc (Nat.le_refl _) _
            obtain ⟨hy7, ht7⟩ := hBo6.afterX hC7
            have hO7 := hO6.chg hC7 (fun q => by have := hx6 _ q; omega)
            have hsz7 := hC7.size
            have hx8 := hx7.keep hA7
            have hy8 := hy7.keep hA7
            have ht8 := ht7.keep hA7
            clear hX d0 d1 d2 d3 d4 d5 d6 d7 d8 d9
            obtain ⟨d0, d1, d2, d3, d4, d5, d6, d7, d8, d9⟩ := hO7.cells
            rw [hk0] at d0
            rw [hn.out] at d1
            have hcl7 := hO7.lt
            have hO8 := hO7.keep hA7
            obtain ⟨Cq, hCq⟩ : ∃ Cq, w7.heap.size = Cq := ⟨_, rfl⟩
            rw [hCq] at hQ7 hcl7
            have hCqn : n4 ≤ Cq := by rw [← hCq]; have := hBo6.n4w; omega
            have hCoq : ¬ Co = Cq := by omega
            have hsz8 := hA7.size
            clear hO7 hy7 ht7 hx7 hC7
            have hY := dtake_any hy8 hSok (by have := hBo6.x.len; omega) n hn9
            go_wp2_with fail
            refine hY.mono ?_
            rintro e w9 ⟨S2, r2, hT2, he9, hy9, hC9⟩
            obtain ⟨e1, e2⟩ := take_det hT hT2
            subst e1 e2
            replace he9 : e = .returned (.tuple #[plV 0 0 0 0 false, .int .i64 2]) := he9
            subst he9
            replace hT := Lib.hid hT
            have hBo9 := hBo6.afterY hwh.out hx8 ht8 hy9 (Nat.le_trans hsz7 hsz8) hC9
            have hO9 := hO8.chg hC9 (fun q => by have := hy6 _ q; omega)
            have hQ9 := hQ7.chg hC9 (fun q => by have := hy6 _ q; omega)
            clear d0 d1 d2 d3 d4 d5 d6 d7 d8 d9
            obtain ⟨d0, d1, d2, d3, d4, d5, d6, d7, d8, d9⟩ := hO9.cells
            rw [hk0] at d0
            obtain ⟨q0, q1, q2, q3, q4⟩ := hQ9.cells
            have hA9 : Below w9.heap.size w9 (w9.alloc (.cells #[.int .i64 0, .int .i64 0, .int .i64 0, .int .i64 0, .bool false] 62)) := (Below.refl _ _).alloc (Nat.le_refl _) _
            have hBo10 := hBo9.keep hA9
            have hcl9 := hO9.lt
            have hcq9 := hQ9.lt
            have hne1 : ¬ Co = w9.heap.size := by omega
            have hne2 : ¬ Cq = w9.heap.size := by omega
            clear hY hx8 hy8 ht8 hy9 hC9 hO8 hQ7 hO6 hP6 hBo6 hBo9 hO9 hQ9 hA7 hA9
            have hq1 := hBo10.x.table
            go_wp2_with fail
            refine hq1.mono ?_
            rintro e w31 ⟨⟨u1, rfl, ht1⟩, hb1⟩
            have hBo101 := hBo10.keep hb1
            clear hq1 hBo10
            have hq2 := dtable_any hBo101.y hBo101.x.ok (by have := hBo101.x.len; omega) hBo101.x.lw
            go_wp2_with fail
            refine hq2.mono ?_
            rintro e w32 ⟨⟨u2, rfl, ht2⟩, hb2⟩
            have hBo102 := hBo101.keep hb2
            have hq3 := words_any _ _ (tableS S1) (tableS S1) w32 (by rw [table_len]; have := hBo102.x.len; omega) (ht1.kl.keep hb2) ht2.kl
            rw [decide_eq_true rfl] at hq3
            clear hq2 hBo101
            go_wp2_with fail
            refine hq3.mono ?_
            rintro e w33 ⟨rfl, hb3⟩
            have hBo103 := hBo102.keep hb3
            clear hq3 hBo102 ht1 ht2
            have hq4 := hBo103.x.rows
            go_wp2_with fail
            refine hq4.mono ?_
            rintro e w34 ⟨⟨u3, rfl, ht3⟩, hb4⟩
            have hBo104 := hBo103.keep hb4
            clear hq4 hBo103
            have hq5 := drows_any hBo104.y hBo104.x.ok (by have := hBo104.x.len; omega)
            go_wp2_with fail
            refine hq5.mono ?_
            rintro e w35 ⟨⟨u4, rfl, ht4⟩, hb5⟩
            have hBo105 := hBo104.keep hb5
            have hq6 := sameSp _ _ (rowsS S1) (rowsS S1) w35 (by have := rowsS_lenD S1; have := hBo105.x.len; omega) ((ht3.keep hb5).el eP_len) (ht4.el eP_len)
            rw [decide_eq_true rfl] at hq6
            clear hq5 hBo104
            go_wp2_with fail
            refine hq6.mono ?_
            rintro e w36 ⟨rfl, hb6⟩
            have hBo106 := hBo105.keep hb6
            clear hq6 hBo105 ht3 ht4 hb1 hb2 hb3 hb4 hb5 hb6
            go_wp2_with fail
            go_roundw
            case rel => exact ⟨j + 1, S1, T, by omega, by go_num, (by have := hLt.out; omega), hBo106⟩
            case measure => first | (simp [intOf]; done) | (simp [intOf]; omega)
          | some p =>
            replace he : e = .returned (.tuple #[plV (p.ch : Nat) (p.ix : Nat) p.cl (p.mn : Nat) p.fr, .int .i64 0]) := he
            subst he
            have hQ7 := PlAt.new w7 (p.ch : Nat) (p.ix : Nat) p.cl (p.mn : Nat) p.fr
            have hA7 : Below w7.heap.size w7 (w7.alloc (.cells #[.int .i64 (p.ch : Nat), .int .i64 (p.ix : Nat), .int .i64 p.cl, .int .i64 (p.mn : Nat), .bool p.fr] 62)) := (Below.refl _ _).alloc (Nat.le_refl _) _
            obtain ⟨hy7, ht7⟩ := hBo6.afterX hC7
            have hO7 := hO6.chg hC7 (fun q => by have := hx6 _ q; omega)
            have hsz7 := hC7.size
            have hx8 := hx7.keep hA7
            have hy8 := hy7.keep hA7
            have ht8 := ht7.keep hA7
            clear hX d0 d1 d2 d3 d4 d5 d6 d7 d8 d9
            obtain ⟨d0, d1, d2, d3, d4, d5, d6, d7, d8, d9⟩ := hO7.cells
            rw [hk0] at d0
            rw [hn.out] at d1
            have hcl7 := hO7.lt
            have hO8 := hO7.keep hA7
            obtain ⟨Cq, hCq⟩ : ∃ Cq, w7.heap.size = Cq := ⟨_, rfl⟩
            rw [hCq] at hQ7 hcl7
            have hCqn : n4 ≤ Cq := by rw [← hCq]; have := hBo6.n4w; omega
            have hCoq : ¬ Co = Cq := by omega
            have hsz8 := hA7.size
            clear hO7 hy7 ht7 hx7 hC7
            have hY := dtake_any hy8 hSok (by have := hBo6.x.len; omega) n hn9
            go_wp2_with fail
            refine hY.mono ?_
            rintro e w9 ⟨S2, r2, hT2, he9, hy9, hC9⟩
            obtain ⟨e1, e2⟩ := take_det hT hT2
            subst e1 e2
            replace he9 : e = .returned (.tuple #[plV (p.ch : Nat) (p.ix : Nat) p.cl (p.mn : Nat) p.fr, .int .i64 0]) := he9
            subst he9
            replace hT := Lib.hid hT
            have hBo9 := hBo6.afterY hwh.out hx8 ht8 hy9 (Nat.le_trans hsz7 hsz8) hC9
            have hO9 := hO8.chg hC9 (fun q => by have := hy6 _ q; omega)
            have hQ9 := hQ7.chg hC9 (fun q => by have := hy6 _ q; omega)
            clear d0 d1 d2 d3 d4 d5 d6 d7 d8 d9
            obtain ⟨d0, d1, d2, d3, d4, d5, d6, d7, d8, d9⟩ := hO9.cells
            rw [hk0] at d0
            obtain ⟨q0, q1, q2, q3, q4⟩ := hQ9.cells
            have hA9 : Below w9.heap.size w9 (w9.alloc (.cells #[.int .i64 (p.ch : Nat), .int .i64 (p.ix : Nat), .int .i64 p.cl, .int .i64 (p.mn : Nat), .bool p.fr] 62)) := (Below.refl _ _).alloc (Nat.le_refl _) _
            have hBo10 := hBo9.keep hA9
            have hcl9 := hO9.lt
            have hcq9 := hQ9.lt
            have hne1 : ¬ Co = w9.heap.size := by omega
            have hne2 : ¬ Cq = w9.heap.size := by omega
            have hO10 := hO9.keep hA9
            obtain ⟨v', w11, hrun, ho11, _, hC11⟩ := appPl p hBo10.t hBo10.n4w (by have := hLt.out; omega)
            have hBo11 := hBo10.afterT hwh.out ho11 hC11
            have hO11 := hO10.chg hC11 (fun q => by have := hvtC.out _ q; omega)
            obtain ⟨g0, g1, g2, g3, g4, g5, g6, g7, g8, g9⟩ := hO11.cells
            rw [hk0] at g0
            (try simp only [World.size_alloc] at hrun)
            clear hY hx8 hy8 ht8 hy9 hC9 hO8 hQ7 hO6 hP6 hBo6 hBo9 hO9 hQ9 hA7 hA9 hBo10 hO10 ho11 hC11 hO11 d1 d2 d3 d4 d5 d6 d7 d8 d9
            have hq1 := hBo11.x.table
            go_wp2_with (at_builtin; refine wpList_append_run rfl _ _ 60 rfl _ _ _ rfl rfl hrun ?_)
            refine hq1.mono ?_
            rintro e w31 ⟨⟨u1, rfl, ht1⟩, hb1⟩
            have hBo111 := hBo11.keep hb1
            clear hq1 hBo11
            have hq2 := dtable_any hBo111.y hBo111.x.ok (by have := hBo111.x.len; omega) hBo111.x.lw
            go_wp2_with fail
            refine hq2.mono ?_
            rintro e w32 ⟨⟨u2, rfl, ht2⟩, hb2⟩
            have hBo112 := hBo111.keep hb2
            have hq3 := words_any _ _ (tableS S1) (tableS S1) w32 (by rw [table_len]; have := hBo112.x.len; omega) (ht1.kl.keep hb2) ht2.kl
            rw [decide_eq_true rfl] at hq3
            clear hq2 hBo111
            go_wp2_with fail
            refine hq3.mono ?_
            rintro e w33 ⟨rfl, hb3⟩
            have hBo113 := hBo112.keep hb3
            clear hq3 hBo112 ht1 ht2
            have hq4 := hBo113.x.rows
            go_wp2_with fail
            refine hq4.mono ?_
            rintro e w34 ⟨⟨u3, rfl, ht3⟩, hb4⟩
            have hBo114 := hBo113.keep hb4
            clear hq4 hBo113
            have hq5 := drows_any hBo114.y hBo114.x.ok (by have := hBo114.x.len; omega)
            go_wp2_with fail
            refine hq5.mono ?_
            rintro e w35 ⟨⟨u4, rfl, ht4⟩, hb5⟩
            have hBo115 := hBo114.keep hb5
            have hq6 := sameSp _ _ (rowsS S1) (rowsS S1) w35 (by have := rowsS_lenD S1; have := hBo115.x.len; omega) ((ht3.keep hb5).el eP_len) (ht4.el eP_len)
            rw [decide_eq_true rfl] at hq6
            clear hq5 hBo114
            go_wp2_with fail
            refine hq6.mono ?_
            rintro e w36 ⟨rfl, hb6⟩
            have hBo116 := hBo115.keep hb6
            clear hq6 hBo115 ht3 ht4 hb1 hb2 hb3 hb4 hb5 hb6
            go_wp2_with fail
            go_roundw
            case rel => exact ⟨j + 1, S1, (T ++ [p]), by omega, by go_num, (by rw [List.length_append, List.length_singleton]; omega), hBo116⟩
            case measure => first | (simp [intOf]; done) | (simp [intOf]; omega)
        · have hX := take_wrong (w := w5.alloc (.cells #[.int .i64 a, .int .i64 b, .int .i64 c, .int .i64 d, .bool f] 62)) (B := B) o.size (by omega)
          have hzr2 := Lib.hid hzr
          clear hzr
          go_wp2_with fail
          refine hX.mono ?_
          rintro e w7 ⟨rfl, hb7⟩
          have hzr := hzr2.out
          have hx7 := hBo6.x.keep hb7
          have hC7 := Chg.of_below (fun k => vx.ownBlock = some k) hb7
          have hQ7 := PlAt.new w7 0 0 0 0 false
          have hA7 : Below w7.heap.size w7 (w7.alloc (.cells #[.int .i64 0, .int .i64 0, .int .i64 0, .int .i64 0, .bool false] 62)) := (Below.refl _ _).alloc (Nat.le_refl _) _
          obtain ⟨hy7, ht7⟩ := hBo6.afterX hC7
          have hO7 := hO6.chg hC7 (fun q => by have := hx6 _ q; omega)
          have hsz7 := hC7.size
          have hx8 := hx7.keep hA7
          have hy8 := hy7.keep hA7
          have ht8 := ht7.keep hA7
          clear hX d0 d1 d2 d3 d4 d5 d6 d7 d8 d9
          obtain ⟨d0, d1, d2, d3, d4, d5, d6, d7, d8, d9⟩ := hO7.cells
          rw [hk0] at d0
          skip
          have hcl7 := hO7.lt
          have hO8 := hO7.keep hA7
          obtain ⟨Cq, hCq⟩ : ∃ Cq, w7.heap.size = Cq := ⟨_, rfl⟩
          rw [hCq] at hQ7 hcl7
          have hCqn : n4 ≤ Cq := by rw [← hCq]; have := hBo6.n4w; omega
          have hCoq : ¬ Co = Cq := by omega
          have hsz8 := hA7.size
          clear hO7 hy7 ht7 hx7 hC7
          have hY := dtake_wrong (w := w7.alloc (.cells #[.int .i64 0, .int .i64 0, .int .i64 0, .int .i64 0, .bool false] 62)) (B := By) o.size (by omega)
          go_wp2_with fail
          refine hY.mono ?_
          rintro e w9 ⟨rfl, hb9⟩
          have hy9 := hy8.keep hb9
          have hC9 := Chg.of_below (fun k => vy.ownBlock = some k) hb9
          have hBo9 := hBo6.afterY hwh.out hx8 ht8 hy9 (Nat.le_trans hsz7 hsz8) hC9
          have hO9 := hO8.chg hC9 (fun q => by have := hy6 _ q; omega)
          have hQ9 := hQ7.chg hC9 (fun q => by have := hy6 _ q; omega)
          clear d0 d1 d2 d3 d4 d5 d6 d7 d8 d9
          obtain ⟨d0, d1, d2, d3, d4, d5, d6, d7, d8, d9⟩ := hO9.cells
          rw [hk0] at d0
          obtain ⟨q0, q1, q2, q3, q4⟩ := hQ9.cells
          have hA9 : Below w9.heap.size w9 (w9.alloc (.cells #[.int .i64 0, .int .i64 0, .int .i64 0, .int .i64 0, .bool false] 62)) := (Below.refl _ _).alloc (Nat.le_refl _) _
          have hBo10 := hBo9.keep hA9
          have hcl9 := hO9.lt
          have hcq9 := hQ9.lt
          have hne1 : ¬ Co = w9.heap.size := by omega
          have hne2 : ¬ Cq = w9.heap.size := by omega
          clear hY hx8 hy8 ht8 hy9 hC9 hO8 hQ7 hO6 hP6 hBo6 hBo9 hO9 hQ9 hA7 hA9
          have hq1 := hBo10.x.table
          go_wp2_with fail
          refine hq1.mono ?_
          rintro e w31 ⟨⟨u1, rfl, ht1⟩, hb1⟩
          have hBo101 := hBo10.keep hb1
          clear hq1 hBo10
          have hq2 := dtable_any hBo101.y hBo101.x.ok (by have := hBo101.x.len; omega) hBo101.x.lw
          go_wp2_with fail
          refine hq2.mono ?_
          rintro e w32 ⟨⟨u2, rfl, ht2⟩, hb2⟩
          have hBo102 := hBo101.keep hb2
          have hq3 := words_any _ _ (tableS S) (tableS S) w32 (by rw [table_len]; have := hBo102.x.len; omega) (ht1.kl.keep hb2) ht2.kl
          rw [decide_eq_true rfl] at hq3
          clear hq2 hBo101
          go_wp2_with fail
          refine hq3.mono ?_
          rintro e w33 ⟨rfl, hb3⟩
          have hBo103 := hBo102.keep hb3
          clear hq3 hBo102 ht1 ht2
          have hq4 := hBo103.x.rows
          go_wp2_with fail
          refine hq4.mono ?_
          rintro e w34 ⟨⟨u3, rfl, ht3⟩, hb4⟩
          have hBo104 := hBo103.keep hb4
          clear hq4 hBo103
          have hq5 := drows_any hBo104.y hBo104.x.ok (by have := hBo104.x.len; omega)
          go_wp2_with fail
          refine hq5.mono ?_
          rintro e w35 ⟨⟨u4, rfl, ht4⟩, hb5⟩
          have hBo105 := hBo104.keep hb5
          have hq6 := sameSp _ _ (rowsS S) (rowsS S) w35 (by have := rowsS_lenD S; have := hBo105.x.len; omega) ((ht3.keep hb5).el eP_len) (ht4.el eP_len)
          rw [decide_eq_true rfl] at hq6
          clear hq5 hBo104
          go_wp2_with fail
          refine hq6.mono ?_
          rintro e w36 ⟨rfl, hb6⟩
          have hBo106 := hBo105.keep hb6
          clear hq6 hBo105 ht3 ht4 hb1 hb2 hb3 hb4 hb5 hb6
          go_wp2_with fail
          go_roundw
          case rel => exact ⟨j + 1, S, T, by omega, by go_num, (by have := hLt.out; omega), hBo106⟩
          case measure => first | (simp [intOf]; done) | (simp [intOf]; omega)
      have e0 : ¬ o.kind = 0 := hk0
      clear d1 d2 d3 d4 d5 d6 d7 d8 d9
      generalize o.kind = kd at *
      have hq1 := hBo6.x.table
      go_wp2_with fail
      refine hq1.mono ?_
      rintro e w31 ⟨⟨u1, rfl, ht1⟩, hb1⟩
      have hBo61 := hBo6.keep hb1
      clear hq1 hBo6
      have hq2 := dtable_any hBo61.y hBo61.x.ok (by have := hBo61.x.len; omega) hBo61.x.lw
      go_wp2_with fail
      refine hq2.mono ?_
      rintro e w32 ⟨⟨u2, rfl, ht2⟩, hb2⟩
      have hBo62 := hBo61.keep hb2
      have hq3 := words_any _ _ (tableS S) (tableS S) w32 (by rw [table_len]; have := hBo62.x.len; omega) (ht1.kl.keep hb2) ht2.kl
      rw [decide_eq_true rfl] at hq3
      clear hq2 hBo61
      go_wp2_with fail
      refine hq3.mono ?_
      rintro e w33 ⟨rfl, hb3⟩
      have hBo63 := hBo62.keep hb3
      clear hq3 hBo62 ht1 ht2
      have hq4 := hBo63.x.rows
      go_wp2_with fail
      refine hq4.mono ?_
      rintro e w34 ⟨⟨u3, rfl, ht3⟩, hb4⟩
      have hBo64 := hBo63.keep hb4
      clear hq4 hBo63
      have hq5 := drows_any hBo64.y hBo64.x.ok (by have := hBo64.x.len; omega)
      go_wp2_with fail
      refine hq5.mono ?_
      rintro e w35 ⟨⟨u4, rfl, ht4⟩, hb5⟩
      have hBo65 := hBo64.keep hb5
      have hq6 := sameSp _ _ (rowsS S) (rowsS S) w35 (by have := rowsS_lenD S; have := hBo65.x.len; omega) ((ht3.keep hb5).el eP_len) (ht4.el eP_len)
      rw [decide_eq_true rfl] at hq6
      clear hq5 hBo64
      go_wp2_with fail
      refine hq6.mono ?_
      rintro e w36 ⟨rfl, hb6⟩
      have hBo66 := hBo65.keep hb6
      clear hq6 hBo65 ht3 ht4 hb1 hb2 hb3 hb4 hb5 hb6
      go_wp2_with fail
      go_roundw
      case rel => exact ⟨j + 1, S, T, by omega, by go_num, (by have := hLt.out; omega), hBo66⟩
      case measure => first | (simp [intOf]; done) | (simp [intOf]; omega)
    · obtain rfl : j = mm := by omega
      have hq1 := hBo.x.table
      go_wp2_with fail
      refine hq1.mono ?_
      rintro e w31 ⟨⟨u1, rfl, ht1⟩, hb1⟩
      have hBo1 := hBo.keep hb1
      clear hq1 hBo
      have hq2 := dtable_any hBo1.y hBo1.x.ok (by have := hBo1.x.len; omega) hBo1.x.lw
      go_wp2_with fail
      refine hq2.mono ?_
      rintro e w32 ⟨⟨u2, rfl, ht2⟩, hb2⟩
      have hBo2 := hBo1.keep hb2
      have hq3 := words_any _ _ (tableS S) (tableS S) w32 (by rw [table_len]; have := hBo2.x.len; omega) (ht1.kl.keep hb2) ht2.kl
      rw [decide_eq_true rfl] at hq3
      clear hq2 hBo1
      go_wp2_with fail
      refine hq3.mono ?_
      rintro e w33 ⟨rfl, hb3⟩
      have hBo3 := hBo2.keep hb3
      clear hq3 hBo2 ht1 ht2
      have hq4 := hBo3.x.rows
      go_wp2_with fail
      refine hq4.mono ?_
      rintro e w34 ⟨⟨u3, rfl, ht3⟩, hb4⟩
      have hBo4 := hBo3.keep hb4
      clear hq4 hBo3
      have hq5 := drows_any hBo4.y hBo4.x.ok (by have := hBo4.x.len; omega)
      go_wp2_with fail
      refine hq5.mono ?_
      rintro e w35 ⟨⟨u4, rfl, ht4⟩, hb5⟩
      have hBo5 := hBo4.keep hb5
      have hq6 := sameSp _ _ (rowsS S) (rowsS S) w35 (by have := rowsS_lenD S; have := hBo5.x.len; omega) ((ht3.keep hb5).el eP_len) (ht4.el eP_len)
      rw [decide_eq_true rfl] at hq6
      clear hq5 hBo4
      go_wp2_with fail
      refine hq6.mono ?_
      rintro e w36 ⟨rfl, hb6⟩
      have hBo6 := hBo5.keep hb6
      clear hq6 hBo5 ht3 ht4 hb1 hb2 hb3 hb4 hb5 hb6
      go_wp2_with fail
      go_ret
      exact ⟨rfl, hBo6.x.bel⟩
end Go.Proofs.YtnjifmecaeagaaaDoor
