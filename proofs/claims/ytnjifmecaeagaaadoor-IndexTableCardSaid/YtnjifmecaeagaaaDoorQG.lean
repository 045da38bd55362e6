/-
  The laws of package tile: TileReads.
  Package tile: the document's Made: a right table.
  The laws of package tile: TileParts.
-/
import Derived.Test.YtnjifmecaeagaaaDoorQTi8
section
set_option linter.unusedVariables false
set_option linter.unusedSimpArgs false
namespace Go.Proofs.YtnjifmecaeagaaaDoor
open Go.RowKit Go.ChangeShapes Go.WideShapes Go.Deep

set_option maxRecDepth 10000 in
set_option maxHeartbeats 2000000 in
theorem tileReads (v : Value) (t : List Nat) (w : World) (hw : Lw w) (hW : WL t) (hv : KL .u64 w v t) :
    Calls Tryd.prog 3 #[v] w fun e w' => e = .returned (.bool true) ∧ Below w.heap.size w w' := by
  have hAw := awake11 w hw
  obtain ⟨n, hn⟩ : ∃ n, t.length = n := ⟨_, rfl⟩
  by_cases h60 : 60 < n
  · have h60' : (60 : Int) < (n : Int) := by omega
    obtain ⟨A, cap, rfl, _⟩ := hv.form hn
    clear hv hW hw
    replace hn := Lib.hid hn
    go_enter Tryd.func3, Tryd.ntmps3
    go_wp2_with fail
    refine hAw.mono ?_
    rintro e w1 ⟨rfl, hb1⟩
    go_wp2_with fail
    go_ret
    exact ⟨rfl, hb1⟩
  have h60' : ¬ (60 : Int) < (n : Int) := by omega
  have h60'' : decide ((60 : Int) < (n : Int)) = false := decide_eq_false h60'
  have hl : t.length ≤ 100000 := by omega
  have hC1 := Lib.hid (fun w1 (hb : Below w.heap.size w w1) => chunks_any v t w1 (hw.keep hb) (hv.keep hb) hW hl)
  have hC2 := Lib.hid (fun w1 (hb : Below w.heap.size w w1) => refChunks_any v t w1 (hw.keep hb) (hv.keep hb) hW hl)
  have hR1 := Lib.hid (fun w1 (hb : Below w.heap.size w w1) => right_any2 v t w1 (hw.keep hb) (hv.keep hb) hW hl)
  have hR2 := Lib.hid (fun w1 (hb : Below w.heap.size w w1) => refRight_any2 v t w1 (hw.keep hb) (hv.keep hb) hW hl)
  obtain ⟨A, cap, rfl, _⟩ := hv.form hn
  generalize rightT t = R at *
  clear hv hW hw hl h60
  go_enter Tryd.func3, Tryd.ntmps3
  go_wp2_with fail
  refine hAw.mono ?_
  rintro e w1 ⟨rfl, hb1⟩
  have hCc := hC1.out _ hb1
  clear hAw hC1
  go_wp2_with fail
  refine hCc.mono ?_
  rintro e w2 ⟨hP, hb2⟩
  have hB2 := hb1.trans (hb2.mono hb1.size)
  have hCd := hC2.out _ hB2
  clear hC2 hCc hb1 hb2
  rcases hP with ⟨hok, v1, rfl, ho1⟩ | ⟨hok, rfl⟩
  · have hk1 : CKL w2 v1 t := ho1.el eC_len
    obtain ⟨A1, c1, rfl, _⟩ := CKL.form hk1 hn
    clear ho1
    go_wp2_with fail
    refine hCd.mono ?_
    rintro e w3 ⟨hP, hb3⟩
    have hB3 := hB2.trans (hb3.mono hB2.size)
    replace hk1 := hk1.keep hb3
    rcases hP with ⟨_, v2, rfl, ho2⟩ | ⟨hno, rfl⟩
    · have hk2 : CKL w3 v2 t := ho2.el eC_len
      obtain ⟨A1', c1', he, hC⟩ := CKL.form hk1 hn
      simp only [Value.slice.injEq, true_and] at he
      obtain ⟨rfl, rfl⟩ := he
      obtain ⟨A2, c2, rfl, hD⟩ := CKL.form hk2 hn
      replace hC := Lib.hid hC
      replace hD := Lib.hid hD
      replace hn := Lib.hid hn
      clear ho2 hk1 hk2 hCd hb3 hB2 hok
      go_wp2_with fail
      go_loopw [8] (fun i wr => ∃ k : Nat, k ≤ n ∧ i = .int .i64 k ∧ Below w3.heap.size w3 wr) (fun i _ => n + 1 - (intOf i).toNat)
      case atStart => exact ⟨0, Nat.zero_le _, rfl, Below.refl _ _⟩
      case round =>
        obtain ⟨k, hk, rfl, hB⟩ := hrel
        by_cases hlt : k < n
        · obtain ⟨g, off, rfl, hcap, _, hg, a0, a1, a2, a3, a4⟩ := hC.out wr k hB hlt
          obtain ⟨g2, off2, rfl, hcap2, _, hg2, d0, d1, d2, d3, d4⟩ := hD.out wr k hB hlt
          have hlt' : (k : Int) < (n : Int) := by omega
          go_wp2_with fail
          go_region
          all_goals (try go_wp2_with fail)
          go_roundw
          case rel => exact ⟨k + 1, by omega, by go_num, hB.drew⟩
          case measure => simp [intOf]; omega
        · obtain rfl : k = n := by omega
          have hBw := hB3.trans (hB.mono hB3.size)
          go_wp2_with fail
          refine (hR1.out _ hBw).mono ?_
          rintro e w8 ⟨rfl, hb8⟩
          have hB8 := hBw.trans (hb8.mono hBw.size)
          clear hb8
          go_wp2_with fail
          refine (hR2.out _ hB8).mono ?_
          rintro e w9 ⟨rfl, hb9⟩
          go_wp2_with fail
          go_ret
          exact ⟨ret_b (by simp), hB8.trans (hb9.mono hB8.size)⟩
    · rw [hok] at hno; cases hno
  · replace hn := Lib.hid hn
    go_wp2_with fail
    refine hCd.mono ?_
    rintro e w3 ⟨hP, hb3⟩
    have hB3 := hB2.trans (hb3.mono hB2.size)
    rcases hP with ⟨hyes, _⟩ | ⟨_, rfl⟩
    · rw [hok] at hyes; cases hyes
    · clear hCd hb3 hB2 hok
      go_wp2_with fail
      go_loopw [8] (fun i wr => i = .int .i64 0 ∧ Below w.heap.size w wr) (fun i _ => 0)
      case atStart => exact ⟨rfl, hB3⟩
      case round =>
        obtain ⟨rfl, hBw⟩ := hrel
        go_wp2_with fail
        refine (hR1.out _ hBw).mono ?_
        rintro e w8 ⟨rfl, hb8⟩
        have hB8 := hBw.trans (hb8.mono hBw.size)
        clear hb8
        go_wp2_with fail
        refine (hR2.out _ hB8).mono ?_
        rintro e w9 ⟨rfl, hb9⟩
        go_wp2_with fail
        go_ret
        exact ⟨ret_b (by simp), hB8.trans (hb9.mono hB8.size)⟩
end Go.Proofs.YtnjifmecaeagaaaDoor
end
section
set_option linter.unusedVariables false
set_option linter.unusedSimpArgs false
namespace Go.Proofs.YtnjifmecaeagaaaDoor
open Go.RowKit Go.ChangeShapes Go.WideShapes Go.Deep

theorem OwnU.keepG {w w1 : World} {base g : Nat} {v : Value} {l : List Nat} (h : OwnU w base v l) (hb : Below g w w1) (hg : ∀ b, v.ownBlock = some b → b < g) : OwnU w1 base v l := by
  refine ⟨h.1, ?_⟩
  rcases h.2 with h2 | ⟨g', cap, cur, hv, hbg, hgc, h1, h2, h3, h4⟩
  · exact .inl h2
  · exact .inr ⟨g', cap, cur, hv, hbg, by rw [hb.block g' (hg g' (by rw [hv]; rfl))]; exact hgc, h1, h2, h3, h4⟩
theorem OwnU.lt {w : World} {base : Nat} {v : Value} {l : List Nat} (h : OwnU w base v l) : ∀ k, v.ownBlock = some k → base ≤ k ∧ k < w.heap.size := World.ownsRow.lt h
theorem OwnU.sl {w : World} {base : Nat} {v : Value} {l : List Nat} {m : Nat} (h : OwnU w base v l) (hm : l.length = m) : ∃ A c, v = .slice A m c := by
  rcases h.2 with ⟨h1, h2⟩ | ⟨g', cap', cur, h1, _⟩
  · exact ⟨none, 0, by rw [h1, ← hm, h2]⟩
  · exact ⟨_, _, by rw [h1, hm]⟩
theorem KL.new1 (w : World) (x : Nat) (t : TypeId) : KL .u64 (w.alloc (.cells #[.int .u64 (x : Nat)] t)) (.slice (some ⟨w.heap.size, 0, none⟩) 1 1) [x] := by
  refine ⟨_, _, rfl, fun _ => ⟨w.heap.size, 0, rfl, by simp, by simp, fun i hi => ?_⟩⟩
  have hi0 : i = 0 := by simp at hi; omega
  subst hi0
  simp [go_sem]
theorem C5.grown {w w1 : World} {g : Nat} {k c l m b : Int} {row : Option Nat} (h : C5 w g k c l m b) (hg : w.grownBy w1 row) (hr : row ≠ some g) : C5 w1 g k c l m b := by
  have hc : ∀ o, w1.cell? ⟨g, o, none⟩ = w.cell? ⟨g, o, none⟩ := fun o => World.cell?_of_block (hg.block g h.lt (fun e => hr e.symm))
  obtain ⟨h0, h1, h2, h3, h4⟩ := h
  exact ⟨by rw [hc]; exact h0, by rw [hc]; exact h1, by rw [hc]; exact h2, by rw [hc]; exact h3, by rw [hc]; exact h4⟩
theorem appU1 {w : World} {base y : Nat} {v : Value} {l : List Nat} (h : OwnU w base v l) (hb : base ≤ w.heap.size) (hl : l.length ≤ 100000) (t : TypeId) :
    ∃ v' w', (Builtin.append_ #[22, 22] 22 #[v, .slice (some ⟨w.heap.size, 0, none⟩) 1 1]).run Tryd.prog (w.alloc (.cells #[.int .u64 (y : Nat)] t)) = .ok v' w' ∧ OwnU w' base v' (l ++ [y]) ∧ Below base w w' ∧ (w.alloc (.cells #[.int .u64 (y : Nat)] t)).grownBy w' v.ownBlock ∧ (v'.ownBlock = v.ownBlock ∨ v'.ownBlock = some (w.heap.size + 1)) := by
  have hA : Below w.heap.size w (w.alloc (.cells #[.int .u64 (y : Nat)] t)) := (Below.refl _ _).alloc (Nat.le_refl _) _
  obtain ⟨v', w', h1, h2, h3, h4⟩ := appU (y := y) (h.keep hA) (cell_new1 w (.int .u64 (y : Nat)) t) (by simp; omega) (by omega)
  refine ⟨v', w', h1, ?_, (hA.mono hb).trans (grown_below h3 (by simp; omega) (fun k hk => (h.lt k hk).1)), h3, by simpa using h4⟩
  unfold OwnU
  rw [List.length_append, List.map_append]
  exact h2
theorem okN_bd {x : Nat} (h : okN x = true) : x < 4294967296 := (okN_t h).1
theorem rightT_WL {t : List Nat} (h : rightT t = true) : WL t := fun x hx => by
  have := List.all_eq_true.1 (rightT_t h).1 x hx
  have := okN_bd this
  omega
/-- a chunk that can be has a word that is one -/
theorem okN_word {k c l m b : Int} (h : rightB k c l m b = true) (b0 : 0 ≤ b) : ∃ x : Nat, wordI k c l m b = (x : Int) ∧ okN x = true ∧ ((kN x : Nat) : Int) = k ∧ ((mN x : Nat) : Int) = m := by
  obtain ⟨k0, k1, c0, c1, l0, l1, m0, m1, b1⟩ := right_bd h b0
  obtain ⟨g0, g1, g2, g3, g4, x0, x1⟩ := word_parts k c l m b k0 k1 c0 c1 l0 l1 m0 m1 b0 b1
  obtain ⟨x, hx⟩ := Int.eq_ofNat_of_zero_le x0
  refine ⟨x, hx, ?_, ?_, ?_⟩
  · rw [← okN_dec, ← hx]
    unfold decB
    rw [g0, g1, g2, g3, g4, h]
    simpa using x1
  · rw [← (gN x).1, ← hx, g0]
  · rw [← (gN x).2.2.2.1, ← hx, g3]

set_option maxRecDepth 10000 in
set_option maxHeartbeats 2000000 in
theorem made_any (v : Value) (l : List Nat) (M : Nat) (w : World) (hw : Lw w) (hH : HL l) (hv : KL .u16 w v l) (hlen : l.length ≤ 1000) (hM : M ≤ 1000) :
    Calls Tryd.prog 20 #[v, .int .i64 (M : Nat)] w fun e w' => ∃ v' t, e = .returned v' ∧ OwnU w' w.heap.size v' t ∧ rightT t = true ∧ t.length ≤ M ∧ Below w.heap.size w w' := by
  obtain ⟨n, hn⟩ : ∃ n, l.length = n := ⟨_, rfl⟩
  obtain ⟨A, cap, rfl, hC⟩ := hv.form hn
  replace hC := Lib.hid hC
  have hHx := Lib.hid (fun k (hk : k < n) => show l.getD k 0 < 65536 from by
    rw [List.getD_eq_getElem?_getD, List.getElem?_eq_getElem (by omega)]; exact hH _ (List.getElem_mem _))
  have hn9 : n ≤ 1000 := by omega
  have hwh := Lib.hid hw
  have hAp := Lib.hid (fun (J u : List Nat) => rightT_app (t := J) (u := u))
  have hOne := Lib.hid (fun (x : Nat) => rightT_one (x := x))
  have hHuge := Lib.hid (fun (x n : Nat) => rightT_huge (x := x) (n := n))
  have hMn := Lib.hid (fun (c : Nat) w => refMny_any (c : Nat) w)
  replace hn := Lib.hid hn
  clear hv hH hlen hw
  go_enter Tryd.func20, Tryd.ntmps20
  go_wp2_with fail
  go_loopw [6, 5] (fun i vr wr => ∃ (j : Nat) (J : List Nat), j ≤ n ∧ i = .int .i64 j ∧ Hid (rightT J = true) ∧ J.length ≤ M ∧ OwnU wr w.heap.size vr J ∧ Below w.heap.size w wr) (fun i _ _ => n + 1 - (intOf i).toNat)
  case atStart => exact ⟨0, [], Nat.zero_le _, rfl, Lib.hid rfl, Nat.zero_le _, World.ownsRow_nil _ _ _ _, Below.refl _ _⟩
  case round =>
    obtain ⟨j, J, hj, rfl, hJ, hJM, hown, hB⟩ := hrel
    obtain ⟨m, hm⟩ : ∃ m, J.length = m := ⟨_, rfl⟩
    obtain ⟨Ar, cr, rfl⟩ := hown.sl hm
    rw [hm] at hJM
    have hJMi : (m : Int) ≤ (M : Int) := by omega
    by_cases hlt : j < n
    · have hlt' : (j : Int) < (n : Int) := by omega
      by_cases hfull : m < M
      · have hfull' : (m : Int) < (M : Int) := by omega
        obtain ⟨g, off, rfl, hcap, hg, c0⟩ := hC.out wr j hB hlt
        have hx := hHx.out j hlt
        generalize l.getD j 0 = x at *
        obtain ⟨B8, hB8⟩ : ∃ B8, wr.heap.size = B8 := ⟨_, rfl⟩
        have hrow8 : Hid (∀ b, Value.ownBlock (.slice Ar m cr) = some b → b < B8) := Lib.hid (fun b q => by rw [← hB8]; exact (hown.lt b q).2)
        have hwB : w.heap.size ≤ B8 := by rw [← hB8]; exact hB.size
        have hcv : IntKind.i64.wrap (x : Int) = (x : Int) := by rw [IntKind.wrap_i64]; omega
        have hml : Hid (J.length = m) := Lib.hid hm
        clear hm
        by_cases hr4 : x % 6 = 4
        · skip
          have e0 : (x : Int) % 6 = (4 : Int) := by omega
          obtain ⟨c, hc⟩ : ∃ c : Nat, x / 8 % 3 = c := ⟨_, rfl⟩
          have hc3 : c < 3 := by omega
          have e2 : (x : Int) / 8 % 3 = (c : Int) := by omega
          have hrB : rightB 1 (c : Nat) 0 0 0 = true := right_yes (by unfold RightP; omega)
          obtain ⟨y, hy, hyo, hyk, hym⟩ := okN_word hrB (by omega)
          have hE := fun w5 (h5 : Lw w5) => refEnc_yes 1 (c : Nat) 0 0 0 w5 h5 (by omega) hrB
          rw [hy] at hE
          replace hE := Lib.hid hE
          clear hy
          replace hyk := Lib.hid hyk
          replace hym := Lib.hid hym
          replace hyo := Lib.hid hyo
          clear hrB
          have hlw5 := (hwh.out.keep hB).alloc (.cells #[.int .i64 1, .int .i64 (c : Nat), .int .i64 0, .int .i64 0, .int .u64 0] 29)
          have hown5 := hown.keep ((Below.refl wr.heap.size wr).alloc (Nat.le_refl _) (.cells #[.int .i64 1, .int .i64 (c : Nat), .int .i64 0, .int .i64 0, .int .u64 0] 29))
          have hC5 := C5.new wr 1 (c : Nat) 0 0 0 29
          rw [hB8] at hC5
          have hB5 := hB.alloc hB.size (.cells #[.int .i64 1, .int .i64 (c : Nat), .int .i64 0, .int .i64 0, .int .u64 0] 29)
          go_wp2_with fail
          refine (hE.out _ hlw5).mono ?_
          rintro e w6 ⟨rfl, hb6⟩
          have hown6 := hown5.keep hb6
          have hB6 := hB5.trans (hb6.mono hB5.size)
          have hC6 := hC5.keep hb6
          clear hown5 hC5 hB5 hlw5 hb6 hE hown hB
          obtain ⟨v', w7, hrun, ho7, hB7, hg7, hv7⟩ := appU1 (y := y) hown6 hB6.size (by rw [hml.out]; omega) (27 : Nat)
          have hBN := hB6.trans hB7
          have hC7 := (hC6.keep ((Below.refl w6.heap.size w6).alloc (Nat.le_refl _) (.cells #[.int .u64 (y : Nat)] (27 : Nat)))).grown hg7 (fun e => by have := hrow8.out B8 e; omega)
          obtain ⟨q0, q1, q2, q3, q4⟩ := hC6
          obtain ⟨z0, z1, z2, z3, z4⟩ := id hC7
          have hJ1 : Hid (J.length + 1 = (J ++ [y]).length) := Lib.hid (by simp)
          obtain ⟨A7, c7, rfl⟩ := ho7.sl (m := m + 1) (by rw [← hJ1.out, hml.out])
          clear hg7 hv7 hown6 hB6 hB7
          have hJn : Hid (rightT (J ++ [y]) = true) := Lib.hid (hAp.out _ _ hJ.out (hOne.out y hyo.out (by have := hyk.out; omega) (by have := hyk.out; omega)))
          have hJl : (J ++ [y]).length ≤ M := by rw [← hJ1.out, hml.out]; omega
          clear hC7
          go_wp2_with (at_builtin; refine wpList_append_run rfl _ _ 22 rfl _ _ _ rfl rfl hrun ?_)
          go_loopw [11, 5] (fun i v9 wq => i = .int .i64 1 ∧ v9 = .slice A7 (m + 1) c7 ∧ wq = w7) (fun _ _ _ => 0)
          case atStart => exact ⟨rfl, rfl, rfl⟩
          case round =>
            obtain ⟨rfl, rfl, rfl⟩ := hrel
            go_wp2_with fail
            go_roundw
            case rel => exact ⟨j + 1, _, by omega, by go_num, hJn, hJl, ho7, hBN⟩
            case measure => first | (simp [intOf]; done) | (simp [intOf]; omega)
        · skip
          by_cases hr0 : x % 6 = 0
          · skip
            have e0 : (x : Int) % 6 = (0 : Int) := by omega
            have hrB : rightB 0 0 0 0 0 = true := right_yes (by unfold RightP; omega)
            obtain ⟨y, hy, hyo, hyk, hym⟩ := okN_word hrB (by omega)
            have hE := fun w5 (h5 : Lw w5) => refEnc_yes 0 0 0 0 0 w5 h5 (by omega) hrB
            rw [hy] at hE
            replace hE := Lib.hid hE
            clear hy
            replace hyk := Lib.hid hyk
            replace hym := Lib.hid hym
            replace hyo := Lib.hid hyo
            clear hrB
            have hlw5 := (hwh.out.keep hB).alloc (.cells #[.int .i64 0, .int .i64 0, .int .i64 0, .int .i64 0, .int .u64 0] 29)
            have hown5 := hown.keep ((Below.refl wr.heap.size wr).alloc (Nat.le_refl _) (.cells #[.int .i64 0, .int .i64 0, .int .i64 0, .int .i64 0, .int .u64 0] 29))
            have hC5 := C5.new wr 0 0 0 0 0 29
            rw [hB8] at hC5
            have hB5 := hB.alloc hB.size (.cells #[.int .i64 0, .int .i64 0, .int .i64 0, .int .i64 0, .int .u64 0] 29)
            go_wp2_with fail
            refine (hE.out _ hlw5).mono ?_
            rintro e w6 ⟨rfl, hb6⟩
            have hown6 := hown5.keep hb6
            have hB6 := hB5.trans (hb6.mono hB5.size)
            have hC6 := hC5.keep hb6
            clear hown5 hC5 hB5 hlw5 hb6 hE hown hB
            obtain ⟨v', w7, hrun, ho7, hB7, hg7, hv7⟩ := appU1 (y := y) hown6 hB6.size (by rw [hml.out]; omega) (27 : Nat)
            have hBN := hB6.trans hB7
            have hC7 := (hC6.keep ((Below.refl w6.heap.size w6).alloc (Nat.le_refl _) (.cells #[.int .u64 (y : Nat)] (27 : Nat)))).grown hg7 (fun e => by have := hrow8.out B8 e; omega)
            obtain ⟨q0, q1, q2, q3, q4⟩ := hC6
            obtain ⟨z0, z1, z2, z3, z4⟩ := id hC7
            have hJ1 : Hid (J.length + 1 = (J ++ [y]).length) := Lib.hid (by simp)
            obtain ⟨A7, c7, rfl⟩ := ho7.sl (m := m + 1) (by rw [← hJ1.out, hml.out])
            clear hg7 hv7 hown6 hB6 hB7
            have hJn : Hid (rightT (J ++ [y]) = true) := Lib.hid (hAp.out _ _ hJ.out (hOne.out y hyo.out (by have := hyk.out; omega) (by have := hyk.out; omega)))
            have hJl : (J ++ [y]).length ≤ M := by rw [← hJ1.out, hml.out]; omega
            clear hC7
            go_wp2_with (at_builtin; refine wpList_append_run rfl _ _ 22 rfl _ _ _ rfl rfl hrun ?_)
            go_loopw [11, 5] (fun i v9 wq => i = .int .i64 1 ∧ v9 = .slice A7 (m + 1) c7 ∧ wq = w7) (fun _ _ _ => 0)
            case atStart => exact ⟨rfl, rfl, rfl⟩
            case round =>
              obtain ⟨rfl, rfl, rfl⟩ := hrel
              go_wp2_with fail
              go_roundw
              case rel => exact ⟨j + 1, _, by omega, by go_num, hJn, hJl, ho7, hBN⟩
              case measure => first | (simp [intOf]; done) | (simp [intOf]; omega)
          · skip
            by_cases hr5 : x % 6 = 5
            · skip
              have e0 : (x : Int) % 6 = (5 : Int) := by omega
              obtain ⟨c, hc⟩ : ∃ c : Nat, x / 8 % 3 = c := ⟨_, rfl⟩
              have hc3 : c < 3 := by omega
              have e2 : (x : Int) / 8 % 3 = (c : Int) := by omega
              obtain ⟨q, hq⟩ : ∃ q : Nat, x / 32 % 8 = q := ⟨_, rfl⟩
              have hq8 : q < 8 := by omega
              have e3 : (x : Int) / 32 % 8 = (q : Int) := by omega
              by_cases hq0 : q = 0
              · subst hq0
                have hrB : rightB 4 0 (c : Nat) 0 0 = true := right_yes (by unfold RightP; omega)
                obtain ⟨y, hy, hyo, hyk, hym⟩ := okN_word hrB (by omega)
                have hE := fun w5 (h5 : Lw w5) => refEnc_yes 4 0 (c : Nat) 0 0 w5 h5 (by omega) hrB
                rw [hy] at hE
                replace hE := Lib.hid hE
                clear hy
                replace hyk := Lib.hid hyk
                replace hym := Lib.hid hym
                replace hyo := Lib.hid hyo
                clear hrB
                have hlw5 := (hwh.out.keep hB).alloc (.cells #[.int .i64 4, .int .i64 0, .int .i64 (c : Nat), .int .i64 0, .int .u64 0] 29)
                have hown5 := hown.keep ((Below.refl wr.heap.size wr).alloc (Nat.le_refl _) (.cells #[.int .i64 4, .int .i64 0, .int .i64 (c : Nat), .int .i64 0, .int .u64 0] 29))
                have hC5 := C5.new wr 4 0 (c : Nat) 0 0 29
                rw [hB8] at hC5
                have hB5 := hB.alloc hB.size (.cells #[.int .i64 4, .int .i64 0, .int .i64 (c : Nat), .int .i64 0, .int .u64 0] 29)
                rw [show (((0 : Nat) : Int)) = 0 from rfl] at e3
                go_wp2_with fail
                refine (hE.out _ hlw5).mono ?_
                rintro e w6 ⟨rfl, hb6⟩
                have hown6 := hown5.keep hb6
                have hB6 := hB5.trans (hb6.mono hB5.size)
                have hC6 := hC5.keep hb6
                clear hown5 hC5 hB5 hlw5 hb6 hE hown hB
                obtain ⟨v', w7, hrun, ho7, hB7, hg7, hv7⟩ := appU1 (y := y) hown6 hB6.size (by rw [hml.out]; omega) (27 : Nat)
                have hBN := hB6.trans hB7
                have hC7 := (hC6.keep ((Below.refl w6.heap.size w6).alloc (Nat.le_refl _) (.cells #[.int .u64 (y : Nat)] (27 : Nat)))).grown hg7 (fun e => by have := hrow8.out B8 e; omega)
                obtain ⟨q0, q1, q2, q3, q4⟩ := hC6
                obtain ⟨z0, z1, z2, z3, z4⟩ := id hC7
                have hJ1 : Hid (J.length + 1 = (J ++ [y]).length) := Lib.hid (by simp)
                obtain ⟨A7, c7, rfl⟩ := ho7.sl (m := m + 1) (by rw [← hJ1.out, hml.out])
                clear hg7 hv7 hown6 hB6 hB7
                have hJn : Hid (rightT (J ++ [y]) = true) := Lib.hid (hAp.out _ _ hJ.out (hOne.out y hyo.out (by have := hyk.out; omega) (by have := hyk.out; omega)))
                have hJl : (J ++ [y]).length ≤ M := by rw [← hJ1.out, hml.out]; omega
                clear hC7
                go_wp2_with (at_builtin; refine wpList_append_run rfl _ _ 22 rfl _ _ _ rfl rfl hrun ?_)
                go_loopw [11, 5] (fun i v9 wq => i = .int .i64 1 ∧ v9 = .slice A7 (m + 1) c7 ∧ wq = w7) (fun _ _ _ => 0)
                case atStart => exact ⟨rfl, rfl, rfl⟩
                case round =>
                  obtain ⟨rfl, rfl, rfl⟩ := hrel
                  go_wp2_with fail
                  go_roundw
                  case rel => exact ⟨j + 1, _, by omega, by go_num, hJn, hJl, ho7, hBN⟩
                  case measure => first | (simp [intOf]; done) | (simp [intOf]; omega)
              · by_cases hqo : q = 1
                · subst hqo
                  have hrB : rightB 4 0 (c : Nat) 1 0 = true := right_yes (by unfold RightP; omega)
                  obtain ⟨y, hy, hyo, hyk, hym⟩ := okN_word hrB (by omega)
                  have hE := fun w5 (h5 : Lw w5) => refEnc_yes 4 0 (c : Nat) 1 0 w5 h5 (by omega) hrB
                  rw [hy] at hE
                  replace hE := Lib.hid hE
                  clear hy
                  replace hyk := Lib.hid hyk
                  replace hym := Lib.hid hym
                  replace hyo := Lib.hid hyo
                  clear hrB
                  have hlw5 := (hwh.out.keep hB).alloc (.cells #[.int .i64 4, .int .i64 0, .int .i64 (c : Nat), .int .i64 1, .int .u64 0] 29)
                  have hown5 := hown.keep ((Below.refl wr.heap.size wr).alloc (Nat.le_refl _) (.cells #[.int .i64 4, .int .i64 0, .int .i64 (c : Nat), .int .i64 1, .int .u64 0] 29))
                  have hC5 := C5.new wr 4 0 (c : Nat) 1 0 29
                  rw [hB8] at hC5
                  have hB5 := hB.alloc hB.size (.cells #[.int .i64 4, .int .i64 0, .int .i64 (c : Nat), .int .i64 1, .int .u64 0] 29)
                  rw [show (((1 : Nat) : Int)) = 1 from rfl] at e3
                  go_wp2_with fail
                  refine (hE.out _ hlw5).mono ?_
                  rintro e w6 ⟨rfl, hb6⟩
                  have hown6 := hown5.keep hb6
                  have hB6 := hB5.trans (hb6.mono hB5.size)
                  have hC6 := hC5.keep hb6
                  clear hown5 hC5 hB5 hlw5 hb6 hE hown hB
                  obtain ⟨v', w7, hrun, ho7, hB7, hg7, hv7⟩ := appU1 (y := y) hown6 hB6.size (by rw [hml.out]; omega) (27 : Nat)
                  have hBN := hB6.trans hB7
                  have hC7 := (hC6.keep ((Below.refl w6.heap.size w6).alloc (Nat.le_refl _) (.cells #[.int .u64 (y : Nat)] (27 : Nat)))).grown hg7 (fun e => by have := hrow8.out B8 e; omega)
                  obtain ⟨q0, q1, q2, q3, q4⟩ := hC6
                  obtain ⟨z0, z1, z2, z3, z4⟩ := id hC7
                  have hJ1 : Hid (J.length + 1 = (J ++ [y]).length) := Lib.hid (by simp)
                  obtain ⟨A7, c7, rfl⟩ := ho7.sl (m := m + 1) (by rw [← hJ1.out, hml.out])
                  clear hg7 hv7 hown6 hB6 hB7
                  have hJn : Hid (rightT (J ++ [y]) = true) := Lib.hid (hAp.out _ _ hJ.out (hOne.out y hyo.out (by have := hyk.out; omega) (by have := hyk.out; omega)))
                  have hJl : (J ++ [y]).length ≤ M := by rw [← hJ1.out, hml.out]; omega
                  clear hC7
                  go_wp2_with (at_builtin; refine wpList_append_run rfl _ _ 22 rfl _ _ _ rfl rfl hrun ?_)
                  go_loopw [11, 5] (fun i v9 wq => i = .int .i64 1 ∧ v9 = .slice A7 (m + 1) c7 ∧ wq = w7) (fun _ _ _ => 0)
                  case atStart => exact ⟨rfl, rfl, rfl⟩
                  case round =>
                    obtain ⟨rfl, rfl, rfl⟩ := hrel
                    go_wp2_with fail
                    go_roundw
                    case rel => exact ⟨j + 1, _, by omega, by go_num, hJn, hJl, ho7, hBN⟩
                    case measure => first | (simp [intOf]; done) | (simp [intOf]; omega)
                · have hq1 : (1 : Int) < (q : Int) := by omega
                  have hw9 : IntKind.i64.wrap ((m : Int) + (q : Int)) = (m : Int) + (q : Int) := by rw [IntKind.wrap_i64]; omega
                  by_cases hfit : m + q > M
                  · have hfit' : (M : Int) < (m : Int) + (q : Int) := by omega
                    have hrB : rightB 4 0 (c : Nat) (q : Nat) 0 = true := right_yes (by unfold RightP; omega)
                    obtain ⟨y, hy, hyo, hyk, hym⟩ := okN_word hrB (by omega)
                    have hE := fun w5 (h5 : Lw w5) => refEnc_yes 4 0 (c : Nat) (q : Nat) 0 w5 h5 (by omega) hrB
                    rw [hy] at hE
                    replace hE := Lib.hid hE
                    clear hy
                    replace hyk := Lib.hid hyk
                    replace hym := Lib.hid hym
                    replace hyo := Lib.hid hyo
                    clear hrB
                    have hlw5 := (hwh.out.keep hB).alloc (.cells #[.int .i64 4, .int .i64 0, .int .i64 (c : Nat), .int .i64 (q : Nat), .int .u64 0] 29)
                    have hown5 := hown.keep ((Below.refl wr.heap.size wr).alloc (Nat.le_refl _) (.cells #[.int .i64 4, .int .i64 0, .int .i64 (c : Nat), .int .i64 (q : Nat), .int .u64 0] 29))
                    have hC5 := C5.new wr 4 0 (c : Nat) (q : Nat) 0 29
                    rw [hB8] at hC5
                    have hB5 := hB.alloc hB.size (.cells #[.int .i64 4, .int .i64 0, .int .i64 (c : Nat), .int .i64 (q : Nat), .int .u64 0] 29)
                    go_wp2_with fail
                    refine (hE.out _ hlw5).mono ?_
                    rintro e w6 ⟨rfl, hb6⟩
                    have hown6 := hown5.keep hb6
                    have hB6 := hB5.trans (hb6.mono hB5.size)
                    have hC6 := hC5.keep hb6
                    clear hown5 hC5 hB5 hlw5 hb6 hE hown hB
                    obtain ⟨v', w7, hrun, ho7, hB7, hg7, hv7⟩ := appU1 (y := y) hown6 hB6.size (by rw [hml.out]; omega) (27 : Nat)
                    have hBN := hB6.trans hB7
                    have hC7 := (hC6.keep ((Below.refl w6.heap.size w6).alloc (Nat.le_refl _) (.cells #[.int .u64 (y : Nat)] (27 : Nat)))).grown hg7 (fun e => by have := hrow8.out B8 e; omega)
                    obtain ⟨q0, q1, q2, q3, q4⟩ := hC6
                    obtain ⟨z0, z1, z2, z3, z4⟩ := id hC7
                    have hJ1 : Hid (J.length + 1 = (J ++ [y]).length) := Lib.hid (by simp)
                    obtain ⟨A7, c7, rfl⟩ := ho7.sl (m := m + 1) (by rw [← hJ1.out, hml.out])
                    clear hg7 hv7 hown6 hB6 hB7
                    have hJn : Hid (rightT (J ++ [y]) = true) := Lib.hid (hAp.out _ _ hJ.out (hOne.out y hyo.out (by have := hyk.out; omega) (by have := hyk.out; omega)))
                    have hJl : (J ++ [y]).length ≤ M := by rw [← hJ1.out, hml.out]; omega
                    clear hC7
                    go_wp2_with (at_builtin; refine wpList_append_run rfl _ _ 22 rfl _ _ _ rfl rfl hrun ?_)
                    go_loopw [11, 5] (fun i v9 wq => i = .int .i64 1 ∧ v9 = .slice A7 (m + 1) c7 ∧ wq = w7) (fun _ _ _ => 0)
                    case atStart => exact ⟨rfl, rfl, rfl⟩
                    case round =>
                      obtain ⟨rfl, rfl, rfl⟩ := hrel
                      go_wp2_with fail
                      go_roundw
                      case rel => exact ⟨j + 1, _, by omega, by go_num, hJn, hJl, ho7, hBN⟩
                      case measure => first | (simp [intOf]; done) | (simp [intOf]; omega)
                  · have hfit' : ¬ (M : Int) < (m : Int) + (q : Int) := by omega
                    have hfit2 : decide ((M : Int) < (m : Int) + (q : Int)) = false := decide_eq_false hfit'
                    have hrB : rightB 4 0 (c : Nat) (q : Nat) 0 = true := right_yes (by unfold RightP; omega)
                    obtain ⟨y, hy, hyo, hyk, hym⟩ := okN_word hrB (by omega)
                    have hE := fun w5 (h5 : Lw w5) => refEnc_yes 4 0 (c : Nat) (q : Nat) 0 w5 h5 (by omega) hrB
                    rw [hy] at hE
                    replace hE := Lib.hid hE
                    clear hy
                    replace hyk := Lib.hid hyk
                    replace hym := Lib.hid hym
                    replace hyo := Lib.hid hyo
                    clear hrB
                    have hlw5 := (hwh.out.keep hB).alloc (.cells #[.int .i64 4, .int .i64 0, .int .i64 (c : Nat), .int .i64 (q : Nat), .int .u64 0] 29)
                    have hown5 := hown.keep ((Below.refl wr.heap.size wr).alloc (Nat.le_refl _) (.cells #[.int .i64 4, .int .i64 0, .int .i64 (c : Nat), .int .i64 (q : Nat), .int .u64 0] 29))
                    have hC5 := C5.new wr 4 0 (c : Nat) (q : Nat) 0 29
                    rw [hB8] at hC5
                    have hB5 := hB.alloc hB.size (.cells #[.int .i64 4, .int .i64 0, .int .i64 (c : Nat), .int .i64 (q : Nat), .int .u64 0] 29)
                    go_wp2_with fail
                    refine (hE.out _ hlw5).mono ?_
                    rintro e w6 ⟨rfl, hb6⟩
                    have hown6 := hown5.keep hb6
                    have hB6 := hB5.trans (hb6.mono hB5.size)
                    have hC6 := hC5.keep hb6
                    clear hown5 hC5 hB5 hlw5 hb6 hE hown hB
                    obtain ⟨v', w7, hrun, ho7, hB7, hg7, hv7⟩ := appU1 (y := y) hown6 hB6.size (by rw [hml.out]; omega) (27 : Nat)
                    have hBN := hB6.trans hB7
                    have hC7 := (hC6.keep ((Below.refl w6.heap.size w6).alloc (Nat.le_refl _) (.cells #[.int .u64 (y : Nat)] (27 : Nat)))).grown hg7 (fun e => by have := hrow8.out B8 e; omega)
                    obtain ⟨q0, q1, q2, q3, q4⟩ := hC6
                    obtain ⟨z0, z1, z2, z3, z4⟩ := id hC7
                    have hJ1 : Hid (J.length + 1 = (J ++ [y]).length) := Lib.hid (by simp)
                    obtain ⟨A7, c7, rfl⟩ := ho7.sl (m := m + 1) (by rw [← hJ1.out, hml.out])
                    clear hg7 hv7 hown6 hB6 hB7
                    have hJn : Hid (rightT (J ++ [y]) = true) := Lib.hid (hAp.out _ _ hJ.out (hOne.out y hyo.out (by have := hyk.out; omega) (by have := hyk.out; omega)))
                    have hJl : (J ++ [y]).length ≤ M := by rw [← hJ1.out, hml.out]; omega
                    clear hC7
                    go_wp2_with (at_builtin; refine wpList_append_run rfl _ _ 22 rfl _ _ _ rfl rfl hrun ?_)
                    go_loopw [11, 5] (fun i v9 wq => i = .int .i64 1 ∧ v9 = .slice A7 (m + 1) c7 ∧ wq = w7) (fun _ _ _ => 0)
                    case atStart => exact ⟨rfl, rfl, rfl⟩
                    case round =>
                      obtain ⟨rfl, rfl, rfl⟩ := hrel
                      go_wp2_with fail
                      go_roundw
                      case rel => exact ⟨j + 1, _, by omega, by go_num, hJn, hJl, ho7, hBN⟩
                      case measure => first | (simp [intOf]; done) | (simp [intOf]; omega)
            · skip
              by_cases hr3 : x % 6 = 3
              · skip
                have e0 : (x : Int) % 6 = (3 : Int) := by omega
                obtain ⟨mh, hh⟩ : ∃ mh : Nat, x / 8 % 4 + 1 = mh := ⟨_, rfl⟩
                obtain ⟨d, hd⟩ : ∃ d : Nat, x / 8 % 4 = d := ⟨_, rfl⟩
                have hd4 : d < 4 := by omega
                have e2 : (x : Int) / 8 % 4 = (d : Int) := by omega
                have e4 : (1 : Int) + (d : Int) = (mh : Int) := by omega
                have hm1 : 1 ≤ mh := by omega
                have hm4 : mh ≤ 4 := by omega
                have e5 : IntKind.i64.wrap (mh : Int) = (mh : Int) := by rw [IntKind.wrap_i64]; omega
                have hw9 : IntKind.i64.wrap ((m : Int) + (mh : Int)) = (m : Int) + (mh : Int) := by rw [IntKind.wrap_i64]; omega
                clear hh hd
                by_cases hfit : m + mh > M
                · have hfit' : (M : Int) < (m : Int) + (mh : Int) := by omega
                  have hq1 : (1 : Int) < (mh : Int) := by omega
                  have hrB : rightB 0 0 0 0 0 = true := right_yes (by unfold RightP; omega)
                  obtain ⟨y, hy, hyo, hyk, hym⟩ := okN_word hrB (by omega)
                  have hE := fun w5 (h5 : Lw w5) => refEnc_yes 0 0 0 0 0 w5 h5 (by omega) hrB
                  rw [hy] at hE
                  replace hE := Lib.hid hE
                  clear hy
                  replace hyk := Lib.hid hyk
                  replace hym := Lib.hid hym
                  replace hyo := Lib.hid hyo
                  clear hrB
                  have hlw5 := (hwh.out.keep hB).alloc (.cells #[.int .i64 0, .int .i64 0, .int .i64 0, .int .i64 0, .int .u64 0] 29)
                  have hown5 := hown.keep ((Below.refl wr.heap.size wr).alloc (Nat.le_refl _) (.cells #[.int .i64 0, .int .i64 0, .int .i64 0, .int .i64 0, .int .u64 0] 29))
                  have hC5 := C5.new wr 0 0 0 0 0 29
                  rw [hB8] at hC5
                  have hB5 := hB.alloc hB.size (.cells #[.int .i64 0, .int .i64 0, .int .i64 0, .int .i64 0, .int .u64 0] 29)
                  go_wp2_with fail
                  refine (hE.out _ hlw5).mono ?_
                  rintro e w6 ⟨rfl, hb6⟩
                  have hown6 := hown5.keep hb6
                  have hB6 := hB5.trans (hb6.mono hB5.size)
                  have hC6 := hC5.keep hb6
                  clear hown5 hC5 hB5 hlw5 hb6 hE hown hB
                  obtain ⟨v', w7, hrun, ho7, hB7, hg7, hv7⟩ := appU1 (y := y) hown6 hB6.size (by rw [hml.out]; omega) (27 : Nat)
                  have hBN := hB6.trans hB7
                  have hC7 := (hC6.keep ((Below.refl w6.heap.size w6).alloc (Nat.le_refl _) (.cells #[.int .u64 (y : Nat)] (27 : Nat)))).grown hg7 (fun e => by have := hrow8.out B8 e; omega)
                  obtain ⟨q0, q1, q2, q3, q4⟩ := hC6
                  obtain ⟨z0, z1, z2, z3, z4⟩ := id hC7
                  have hJ1 : Hid (J.length + 1 = (J ++ [y]).length) := Lib.hid (by simp)
                  obtain ⟨A7, c7, rfl⟩ := ho7.sl (m := m + 1) (by rw [← hJ1.out, hml.out])
                  clear hg7 hv7 hown6 hB6 hB7
                  have hJn : Hid (rightT (J ++ [y]) = true) := Lib.hid (hAp.out _ _ hJ.out (hOne.out y hyo.out (by have := hyk.out; omega) (by have := hyk.out; omega)))
                  have hJl : (J ++ [y]).length ≤ M := by rw [← hJ1.out, hml.out]; omega
                  clear hC7
                  go_wp2_with (at_builtin; refine wpList_append_run rfl _ _ 22 rfl _ _ _ rfl rfl hrun ?_)
                  go_loopw [11, 5] (fun i v9 wq => i = .int .i64 1 ∧ v9 = .slice A7 (m + 1) c7 ∧ wq = w7) (fun _ _ _ => 0)
                  case atStart => exact ⟨rfl, rfl, rfl⟩
                  case round =>
                    obtain ⟨rfl, rfl, rfl⟩ := hrel
                    go_wp2_with fail
                    go_roundw
                    case rel => exact ⟨j + 1, _, by omega, by go_num, hJn, hJl, ho7, hBN⟩
                    case measure => first | (simp [intOf]; done) | (simp [intOf]; omega)
                · have hfit' : ¬ (M : Int) < (m : Int) + (mh : Int) := by omega
                  have hfit2 : decide ((M : Int) < (m : Int) + (mh : Int)) = false := decide_eq_false hfit'
                  by_cases hmo : mh = 1
                  · subst hmo
                    rw [show (((1 : Nat) : Int)) = 1 from rfl] at e4 e5 hw9 hfit' hfit2
                    have hrB : rightB 2 0 0 1 0 = true := right_yes (by unfold RightP; omega)
                    obtain ⟨y, hy, hyo, hyk, hym⟩ := okN_word hrB (by omega)
                    have hE := fun w5 (h5 : Lw w5) => refEnc_yes 2 0 0 1 0 w5 h5 (by omega) hrB
                    rw [hy] at hE
                    replace hE := Lib.hid hE
                    clear hy
                    replace hyk := Lib.hid hyk
                    replace hym := Lib.hid hym
                    replace hyo := Lib.hid hyo
                    clear hrB
                    have hlw5 := (hwh.out.keep hB).alloc (.cells #[.int .i64 2, .int .i64 0, .int .i64 0, .int .i64 1, .int .u64 0] 29)
                    have hown5 := hown.keep ((Below.refl wr.heap.size wr).alloc (Nat.le_refl _) (.cells #[.int .i64 2, .int .i64 0, .int .i64 0, .int .i64 1, .int .u64 0] 29))
                    have hC5 := C5.new wr 2 0 0 1 0 29
                    rw [hB8] at hC5
                    have hB5 := hB.alloc hB.size (.cells #[.int .i64 2, .int .i64 0, .int .i64 0, .int .i64 1, .int .u64 0] 29)
                    go_wp2_with fail
                    refine (hE.out _ hlw5).mono ?_
                    rintro e w6 ⟨rfl, hb6⟩
                    have hown6 := hown5.keep hb6
                    have hB6 := hB5.trans (hb6.mono hB5.size)
                    have hC6 := hC5.keep hb6
                    clear hown5 hC5 hB5 hlw5 hb6 hE hown hB
                    obtain ⟨v', w7, hrun, ho7, hB7, hg7, hv7⟩ := appU1 (y := y) hown6 hB6.size (by rw [hml.out]; omega) (27 : Nat)
                    have hBN := hB6.trans hB7
                    have hC7 := (hC6.keep ((Below.refl w6.heap.size w6).alloc (Nat.le_refl _) (.cells #[.int .u64 (y : Nat)] (27 : Nat)))).grown hg7 (fun e => by have := hrow8.out B8 e; omega)
                    obtain ⟨q0, q1, q2, q3, q4⟩ := hC6
                    obtain ⟨z0, z1, z2, z3, z4⟩ := id hC7
                    have hJ1 : Hid (J.length + 1 = (J ++ [y]).length) := Lib.hid (by simp)
                    obtain ⟨A7, c7, rfl⟩ := ho7.sl (m := m + 1) (by rw [← hJ1.out, hml.out])
                    have hJs : Hid (J ++ [y] = J ++ (y :: List.replicate (1 - 1) 3)) := Lib.hid rfl
                    have hl1 : Hid ((J ++ [y]).length = m + 1) := Lib.hid (by rw [← hJ1.out, hml.out])
                    have hne0 : Hid (∀ b, Value.ownBlock (.slice A7 (m + 1) c7) = some b → b ≠ B8) := Lib.hid (fun b q => by
                      rcases hv7 with e | e
                      · rw [e] at q; have := hrow8.out b q; omega
                      · rw [e] at q; have hlt8 : B8 < w6.heap.size := World.block_lt_of_cell? _ _ q0; simp at q; omega)
                    have hRep := Lib.hid (fun k (hk : 1 ≤ k) => show (J ++ (y :: List.replicate (k - 1) 3)) ++ [3] = J ++ (y :: List.replicate (k + 1 - 1) 3) from by
                      rw [List.append_assoc, List.cons_append, ← List.replicate_succ', show k - 1 + 1 = k + 1 - 1 by omega])
                    have hEnd : Hid (rightT (J ++ (y :: List.replicate (1 - 1) 3)) = true) := Lib.hid (hAp.out _ _ hJ.out (hHuge.out y (1 - 1) hyo.out (by have := hyk.out; omega) (by have := hym.out; omega)))
                    have hEl : Hid ((J ++ (y :: List.replicate (1 - 1) 3)).length ≤ M) := Lib.hid (by simp; have := hml.out; omega)
                    generalize hJ2 : J ++ [y] = J2 at *
                    replace hJ2 := Lib.hid hJ2
                    clear hg7 hv7 hown6 hB6 hB7 hJ1 q0 q1 q2 q3 q4
                    go_wp2_with (at_builtin; refine wpList_append_run rfl _ _ 22 rfl _ _ _ rfl rfl hrun ?_)
                    go_loopw [11, 5] (fun i v9 wq => ∃ (k : Nat) (J2 : List Nat), 1 ≤ k ∧ k ≤ 1 ∧ i = .int .i64 k ∧ Hid (J2 = J ++ (y :: List.replicate (k - 1) 3)) ∧ J2.length = m + k ∧ OwnU wq w.heap.size v9 J2 ∧ Hid (∀ b, v9.ownBlock = some b → b ≠ B8) ∧ C5 wq B8 2 0 0 1 0 ∧ Below w.heap.size w wq) (fun i _ _ => 1 + 1 - (intOf i).toNat)
                    case atStart => exact ⟨1, J2, by omega, hm1, rfl, hJs, hl1.out, ho7, hne0, hC7, hBN⟩
                    case round =>
                      clear hrun ho7 hBN hJs hl1 hne0 hC7 z0 z1 z2 z3 z4
                      obtain ⟨k, J3, hk1, hk, rfl, hJ3, hJl, hown, hne, hC5, hB⟩ := hrel
                      obtain ⟨A9, c9, rfl⟩ := hown.sl hJl
                      by_cases hlt2 : k < 1
                      · exact absurd hlt2 (by omega)
                      · obtain rfl : k = 1 := by omega
                        obtain ⟨z0, z1, z2, z3, z4⟩ := id hC5
                        have hJn : Hid (rightT J3 = true) := Lib.hid (by rw [hJ3.out]; exact hEnd.out)
                        have hJM3 : Hid (J3.length ≤ M) := Lib.hid (by rw [hJ3.out]; exact hEl.out)
                        go_wp2_with fail
                        go_roundw
                        case rel => exact ⟨j + 1, J3, by omega, by go_num, hJn, hJM3.out, hown, hB⟩
                        case measure => first | (simp [intOf]; done) | (simp [intOf]; omega)
                  · have hq1 : (1 : Int) < (mh : Int) := by omega
                    have hrB : rightB 2 0 0 (mh : Nat) 0 = true := right_yes (by unfold RightP; omega)
                    obtain ⟨y, hy, hyo, hyk, hym⟩ := okN_word hrB (by omega)
                    have hE := fun w5 (h5 : Lw w5) => refEnc_yes 2 0 0 (mh : Nat) 0 w5 h5 (by omega) hrB
                    rw [hy] at hE
                    replace hE := Lib.hid hE
                    clear hy
                    replace hyk := Lib.hid hyk
                    replace hym := Lib.hid hym
                    replace hyo := Lib.hid hyo
                    clear hrB
                    have hlw5 := (hwh.out.keep hB).alloc (.cells #[.int .i64 2, .int .i64 0, .int .i64 0, .int .i64 (mh : Nat), .int .u64 0] 29)
                    have hown5 := hown.keep ((Below.refl wr.heap.size wr).alloc (Nat.le_refl _) (.cells #[.int .i64 2, .int .i64 0, .int .i64 0, .int .i64 (mh : Nat), .int .u64 0] 29))
                    have hC5 := C5.new wr 2 0 0 (mh : Nat) 0 29
                    rw [hB8] at hC5
                    have hB5 := hB.alloc hB.size (.cells #[.int .i64 2, .int .i64 0, .int .i64 0, .int .i64 (mh : Nat), .int .u64 0] 29)
                    go_wp2_with fail
                    refine (hE.out _ hlw5).mono ?_
                    rintro e w6 ⟨rfl, hb6⟩
                    have hown6 := hown5.keep hb6
                    have hB6 := hB5.trans (hb6.mono hB5.size)
                    have hC6 := hC5.keep hb6
                    clear hown5 hC5 hB5 hlw5 hb6 hE hown hB
                    obtain ⟨v', w7, hrun, ho7, hB7, hg7, hv7⟩ := appU1 (y := y) hown6 hB6.size (by rw [hml.out]; omega) (27 : Nat)
                    have hBN := hB6.trans hB7
                    have hC7 := (hC6.keep ((Below.refl w6.heap.size w6).alloc (Nat.le_refl _) (.cells #[.int .u64 (y : Nat)] (27 : Nat)))).grown hg7 (fun e => by have := hrow8.out B8 e; omega)
                    obtain ⟨q0, q1, q2, q3, q4⟩ := hC6
                    obtain ⟨z0, z1, z2, z3, z4⟩ := id hC7
                    have hJ1 : Hid (J.length + 1 = (J ++ [y]).length) := Lib.hid (by simp)
                    obtain ⟨A7, c7, rfl⟩ := ho7.sl (m := m + 1) (by rw [← hJ1.out, hml.out])
                    have hJs : Hid (J ++ [y] = J ++ (y :: List.replicate (1 - 1) 3)) := Lib.hid rfl
                    have hl1 : Hid ((J ++ [y]).length = m + 1) := Lib.hid (by rw [← hJ1.out, hml.out])
                    have hne0 : Hid (∀ b, Value.ownBlock (.slice A7 (m + 1) c7) = some b → b ≠ B8) := Lib.hid (fun b q => by
                      rcases hv7 with e | e
                      · rw [e] at q; have := hrow8.out b q; omega
                      · rw [e] at q; have hlt8 : B8 < w6.heap.size := World.block_lt_of_cell? _ _ q0; simp at q; omega)
                    have hRep := Lib.hid (fun k (hk : 1 ≤ k) => show (J ++ (y :: List.replicate (k - 1) 3)) ++ [3] = J ++ (y :: List.replicate (k + 1 - 1) 3) from by
                      rw [List.append_assoc, List.cons_append, ← List.replicate_succ', show k - 1 + 1 = k + 1 - 1 by omega])
                    have hEnd : Hid (rightT (J ++ (y :: List.replicate (mh - 1) 3)) = true) := Lib.hid (hAp.out _ _ hJ.out (hHuge.out y (mh - 1) hyo.out (by have := hyk.out; omega) (by have := hym.out; omega)))
                    have hEl : Hid ((J ++ (y :: List.replicate (mh - 1) 3)).length ≤ M) := Lib.hid (by simp; have := hml.out; omega)
                    generalize hJ2 : J ++ [y] = J2 at *
                    replace hJ2 := Lib.hid hJ2
                    clear hg7 hv7 hown6 hB6 hB7 hJ1 q0 q1 q2 q3 q4
                    go_wp2_with (at_builtin; refine wpList_append_run rfl _ _ 22 rfl _ _ _ rfl rfl hrun ?_)
                    go_loopw [11, 5] (fun i v9 wq => ∃ (k : Nat) (J2 : List Nat), 1 ≤ k ∧ k ≤ mh ∧ i = .int .i64 k ∧ Hid (J2 = J ++ (y :: List.replicate (k - 1) 3)) ∧ J2.length = m + k ∧ OwnU wq w.heap.size v9 J2 ∧ Hid (∀ b, v9.ownBlock = some b → b ≠ B8) ∧ C5 wq B8 2 0 0 mh 0 ∧ Below w.heap.size w wq) (fun i _ _ => mh + 1 - (intOf i).toNat)
                    case atStart => exact ⟨1, J2, by omega, hm1, rfl, hJs, hl1.out, ho7, hne0, hC7, hBN⟩
                    case round =>
                      clear hrun ho7 hBN hJs hl1 hne0 hC7 z0 z1 z2 z3 z4
                      obtain ⟨k, J3, hk1, hk, rfl, hJ3, hJl, hown, hne, hC5, hB⟩ := hrel
                      obtain ⟨A9, c9, rfl⟩ := hown.sl hJl
                      by_cases hlt2 : k < mh
                      · have hlt2' : (k : Int) < (mh : Int) := by omega
                        obtain ⟨v', w8, hrun, ho8, hB8', hg8, hv8⟩ := appU1 (y := 3) hown hB.size (by omega) (27 : Nat)
                        rw [show (((3 : Nat) : Int)) = 3 from rfl] at hrun hg8
                        have hBN := hB.trans hB8'
                        have hC8 := (hC5.keep ((Below.refl wr.heap.size wr).alloc (Nat.le_refl _) (.cells #[.int .u64 3] (27 : Nat)))).grown hg8 (fun e => hne.out B8 e rfl)
                        obtain ⟨z0, z1, z2, z3, z4⟩ := id hC5
                        have hne8 : Hid (∀ b, v'.ownBlock = some b → b ≠ B8) := Lib.hid (fun b q => by
                          rcases hv8 with e | e
                          · rw [e] at q; exact hne.out b q
                          · rw [e] at q; have hlt8 : B8 < wr.heap.size := World.block_lt_of_cell? _ _ z0; simp at q; omega)
                        have hJn : Hid (J3 ++ [3] = J ++ (y :: List.replicate (k + 1 - 1) 3)) := Lib.hid (by rw [hJ3.out]; exact hRep.out k hk1)
                        have hJn2 : (J3 ++ [3]).length = m + (k + 1) := by rw [List.length_append, hJl]; rfl
                        clear hg8 hv8 hB8' hown hB hC5 hne hJ3
                        go_wp2_with (at_builtin; refine wpList_append_run rfl _ _ 22 rfl _ _ _ rfl rfl hrun ?_)
                        go_roundw
                        case rel => exact ⟨k + 1, _, by omega, by omega, by go_num, hJn, hJn2, ho8, hne8, hC8, hBN⟩
                        case measure => first | (simp [intOf]; done) | (simp [intOf]; omega)
                      · obtain rfl : k = mh := by omega
                        obtain ⟨z0, z1, z2, z3, z4⟩ := id hC5
                        have hJn : Hid (rightT J3 = true) := Lib.hid (by rw [hJ3.out]; exact hEnd.out)
                        have hJM3 : Hid (J3.length ≤ M) := Lib.hid (by rw [hJ3.out]; exact hEl.out)
                        go_wp2_with fail
                        go_roundw
                        case rel => exact ⟨j + 1, J3, by omega, by go_num, hJn, hJM3.out, hown, hB⟩
                        case measure => first | (simp [intOf]; done) | (simp [intOf]; omega)
              · skip
                by_cases hr1 : x % 6 = 1
                · skip
                  have e0 : (x : Int) % 6 = (1 : Int) := by omega
                  obtain ⟨c, hc⟩ : ∃ c : Nat, x / 8 % 3 = c := ⟨_, rfl⟩
                  have hc3 : c < 3 := by omega
                  have e2 : (x : Int) / 8 % 3 = (c : Int) := by omega
                  obtain ⟨b0, hb0⟩ : ∃ b0 : Nat, x / 32 = b0 := ⟨_, rfl⟩
                  have hb08 : b0 < 2048 := by omega
                  have e3 : (x : Int) / 32 = (b0 : Int) := by omega
                  have e7 : IntKind.u64.wrap (b0 : Int) = (b0 : Int) := by rw [IntKind.wrap_u64]; omega
                  clear hb0 hc
                  have hcc : c = 0 ∨ c = 1 ∨ c = 2 := by omega
                  rcases hcc with rfl | rfl | rfl
                  · skip
                    obtain ⟨b, hb⟩ : ∃ b : Nat, b0 % 256 = b := ⟨_, rfl⟩
                    have hb9 : b < 256 := by rw [← hb]; exact Nat.mod_lt _ (by decide)
                    have e6 : (b0 : Int) % 256 = (b : Int) := by omega
                    have e8 : (b0 : Int).tmod 256 = (b : Int) := by rw [Int.tmod_eq_emod_of_nonneg (by omega)]; exact e6
                    have e9 : IntKind.u64.wrap 256 = 256 := rfl
                    have e10 : ¬ (256 : Int) = 0 := by decide
                    have hmy : mnyI (((0 : Nat) : Int)) = 8 := rfl
                    rw [show (((0 : Nat) : Int)) = 0 from rfl] at e2 hmy
                    have hrB : rightB 1 0 0 0 (b : Nat) = true := right_yes (by unfold RightP; omega)
                    obtain ⟨y, hy, hyo, hyk, hym⟩ := okN_word hrB (by omega)
                    have hE := fun w5 (h5 : Lw w5) => refEnc_yes 1 0 0 0 (b : Nat) w5 h5 (by omega) hrB
                    rw [hy] at hE
                    replace hE := Lib.hid hE
                    clear hy
                    replace hyk := Lib.hid hyk
                    replace hym := Lib.hid hym
                    replace hyo := Lib.hid hyo
                    clear hrB
                    have hC5 := C5.new wr 1 0 0 0 (b0 : Nat) 29
                    have xf : (wr.alloc (.cells #[.int .i64 1, .int .i64 0, .int .i64 0, .int .i64 0, .int .u64 (b0 : Nat)] 29)).frozen? ⟨wr.heap.size, 4, none⟩ = false := by simp [go_sem]
                    rw [hB8] at hC5 xf
                    have hA5 := (Below.refl wr.heap.size wr).alloc (Nat.le_refl _) (.cells #[.int .i64 1, .int .i64 0, .int .i64 0, .int .i64 0, .int .u64 (b0 : Nat)] 29)
                    go_wp2_with fail
                    generalize hW5 : wr.alloc (.cells #[.int .i64 1, .int .i64 0, .int .i64 0, .int .i64 0, .int .u64 (b0 : Nat)] 29) = W5 at *
                    obtain ⟨x0, x1, x2, x3, x4⟩ := id hC5
                    refine wp_region_tail (S := (fun w' => (w'.cell? ⟨B8, 1, none⟩ = some (.int .i64 0) ∧ w'.cell? ⟨B8, 4, none⟩ = some (.int .u64 (b0 : Nat)) ∧ w'.frozen? ⟨B8, 4, none⟩ = false) ∧ Below W5.heap.size W5 w')) (n := 8) (by kernel_rfl) ?_ (fun hHeld hInv => ?_) (by decide)
                    · (try dsimp only)
                      (first | assumption | (exact ⟨⟨x1, x4, xf⟩, (Below.refl _ _).drew⟩))
                    refine takeS 0 (v := ?_) (tailAt (by kernel_rfl)) hInv (by decide) rfl (by kernel_rfl) (by kernel_rfl) (by kernel_rfl) (fun _ _ _ h => h) (by rfl) (by assumption) ?_ (fun hInv2 => ?_)
                    rotate_left
                    · (intro w hSw; (try dsimp only at hSw); (try go_split_ands); go_simp <;> with_reducible rfl)
                    clear hInv
                    have hInv := hInv2
                    clear hInv2
                    try simp only [Act.put, List.setIfInBounds_toArray, List.set_cons_zero, List.set_cons_succ] at hInv ⊢
                    refine takeS 1 (v := ?_) (tailAt (by kernel_rfl)) hInv (by decide) rfl (by kernel_rfl) (by kernel_rfl) (by kernel_rfl) (fun _ _ _ h => h) (by rfl) (by assumption) ?_ (fun hInv2 => ?_)
                    rotate_left
                    · (intro w hSw; (try dsimp only at hSw); (try go_split_ands); go_simp <;> with_reducible rfl)
                    clear hInv
                    have hInv := hInv2
                    clear hInv2
                    try simp only [Act.put, List.setIfInBounds_toArray, List.set_cons_zero, List.set_cons_succ] at hInv ⊢
                    refine takeS 2 (v := ?_) (tailAt (by kernel_rfl)) hInv (by decide) rfl (by kernel_rfl) (by kernel_rfl) (by kernel_rfl) (fun _ _ _ h => h) (by rfl) (by assumption) ?_ (fun hInv2 => ?_)
                    rotate_left
                    · (intro w hSw; (try dsimp only at hSw); (try go_split_ands); go_simp <;> with_reducible rfl)
                    clear hInv
                    have hInv := hInv2
                    clear hInv2
                    try simp only [Act.put, List.setIfInBounds_toArray, List.set_cons_zero, List.set_cons_succ] at hInv ⊢
                    refine takeS 3 (v := ?_) (tailAt (by kernel_rfl)) hInv (by decide) rfl (by kernel_rfl) (by kernel_rfl) (by kernel_rfl) (fun _ _ _ h => h) (by rfl) (by assumption) ?_ (fun hInv2 => ?_)
                    rotate_left
                    · (intro w hSw; (try dsimp only at hSw); (try go_split_ands); go_simp <;> with_reducible rfl)
                    clear hInv
                    have hInv := hInv2
                    clear hInv2
                    try simp only [Act.put, List.setIfInBounds_toArray, List.set_cons_zero, List.set_cons_succ] at hInv ⊢
                    refine oneS 4 hInv (by decide) rfl (by kernel_rfl) (fun K hK => ?_)
                    go_simp
                    (refine (Calls.mono (hMn.out 0 _) ?_); rintro e w9 ⟨rfl, rfl⟩; (try rw [hmy]))
                    refine hK.out _ _ ?_ (fun hHeld2 hInv2 => ?_)
                    · (try dsimp only)
                      (first | assumption | (exact ⟨⟨x1, x4, xf⟩, (Below.refl _ _).drew⟩))
                    clear hK K hHeld hInv
                    have hHeld := hHeld2
                    have hInv := hInv2
                    clear hHeld2 hInv2
                    try simp only [Act.put, List.setIfInBounds_toArray, List.set_cons_zero, List.set_cons_succ] at hInv ⊢
                    refine takeS 5 (v := ?_) (tailAt (by kernel_rfl)) hInv (by decide) rfl (by kernel_rfl) (by kernel_rfl) (by kernel_rfl) (fun _ _ _ h => h) (by rfl) (by assumption) ?_ (fun hInv2 => ?_)
                    rotate_left
                    · (intro w hSw; (try dsimp only at hSw); (try go_split_ands); go_simp <;> with_reducible rfl)
                    clear hInv
                    have hInv := hInv2
                    clear hInv2
                    try simp only [Act.put, List.setIfInBounds_toArray, List.set_cons_zero, List.set_cons_succ] at hInv ⊢
                    refine takeS 6 (v := ?_) (tailAt (by kernel_rfl)) hInv (by decide) rfl (by kernel_rfl) (by kernel_rfl) (by kernel_rfl) (fun _ _ _ h => h) (by rfl) (by assumption) ?_ (fun hInv2 => ?_)
                    rotate_left
                    · (intro w hSw; (try dsimp only at hSw); (try go_split_ands); go_simp <;> with_reducible rfl)
                    clear hInv
                    have hInv := hInv2
                    clear hInv2
                    try simp only [Act.put, List.setIfInBounds_toArray, List.set_cons_zero, List.set_cons_succ] at hInv ⊢
                    refine takeS 7 (v := ?_) (tailAt (by kernel_rfl)) hInv (by decide) rfl (by kernel_rfl) (by kernel_rfl) (by kernel_rfl) (fun _ _ _ h => h) (by rfl) (by assumption) ?_ (fun hInv2 => ?_)
                    rotate_left
                    · (intro w hSw; (try dsimp only at hSw); (try go_split_ands); go_simp <;> with_reducible rfl)
                    clear hInv
                    have hInv := hInv2
                    clear hInv2
                    try simp only [Act.put, List.setIfInBounds_toArray, List.set_cons_zero, List.set_cons_succ] at hInv ⊢
                    refine lastS 8 rfl (by decide) (by kernel_rfl) (fun K hK => ?_)
                    go_simp
                    refine hK.out _ _ ?_
                    clear hK K
                    try simp only [Act.put, List.setIfInBounds_toArray, List.set_cons_zero, List.set_cons_succ]
                    refine wpAnyS_done (by kernel_rfl) ?_ _
                    clear hHeld hInv
                    have hD5 := hA5
                    have hC6 : C5 W5 B8 1 0 0 0 (b0 : Nat) := hC5
                    have hst : C5 ((W5.setCell ⟨B8, 4, none⟩ (.int .u64 (b : Nat))).drew) B8 1 0 0 0 (b : Nat) := by
                      obtain ⟨y0, y1, y2, y3, y4⟩ := hC6
                      refine ⟨?_, ?_, ?_, ?_, ?_⟩ <;> simp [go_sem, *]
                    have hBs : Below B8 wr ((W5.setCell ⟨B8, 4, none⟩ (.int .u64 (b : Nat))).drew) := by
                      rw [← hB8]; exact (hD5.setCell (by simp [hB8]) _).drew
                    have hBt : Below w.heap.size w ((W5.setCell ⟨B8, 4, none⟩ (.int .u64 (b : Nat))).drew) := hB.trans (hBs.mono hwB)
                    have hown5 : OwnU ((W5.setCell ⟨B8, 4, none⟩ (.int .u64 (b : Nat))).drew) w.heap.size (.slice Ar m cr) J := hown.keepG hBs hrow8.out
                    have hlw5 := hwh.out.keep hBt
                    have hB5 := hBt
                    clear hBt hBs hD5 hC6 hC5 hA5 xf x0 x1 x2 x3 x4 hW5
                    have hC5 := hst
                    clear hst
                    obtain ⟨x0, x1, x2, x3, x4⟩ := id hC5
                    generalize (W5.setCell ⟨B8, 4, none⟩ (.int .u64 (b : Nat))).drew = W9 at *
                    go_wp2_with fail
                    refine (hE.out _ hlw5).mono ?_
                    rintro e w6 ⟨rfl, hb6⟩
                    have hown6 := hown5.keep hb6
                    have hB6 := hB5.trans (hb6.mono hB5.size)
                    have hC6 := hC5.keep hb6
                    clear hown5 hC5 hB5 hlw5 hb6 hE hown hB
                    obtain ⟨v', w7, hrun, ho7, hB7, hg7, hv7⟩ := appU1 (y := y) hown6 hB6.size (by rw [hml.out]; omega) (27 : Nat)
                    have hBN := hB6.trans hB7
                    have hC7 := (hC6.keep ((Below.refl w6.heap.size w6).alloc (Nat.le_refl _) (.cells #[.int .u64 (y : Nat)] (27 : Nat)))).grown hg7 (fun e => by have := hrow8.out B8 e; omega)
                    obtain ⟨q0, q1, q2, q3, q4⟩ := hC6
                    obtain ⟨z0, z1, z2, z3, z4⟩ := id hC7
                    have hJ1 : Hid (J.length + 1 = (J ++ [y]).length) := Lib.hid (by simp)
                    obtain ⟨A7, c7, rfl⟩ := ho7.sl (m := m + 1) (by rw [← hJ1.out, hml.out])
                    clear hg7 hv7 hown6 hB6 hB7
                    have hJn : Hid (rightT (J ++ [y]) = true) := Lib.hid (hAp.out _ _ hJ.out (hOne.out y hyo.out (by have := hyk.out; omega) (by have := hyk.out; omega)))
                    have hJl : (J ++ [y]).length ≤ M := by rw [← hJ1.out, hml.out]; omega
                    clear hC7
                    go_wp2_with (at_builtin; refine wpList_append_run rfl _ _ 22 rfl _ _ _ rfl rfl hrun ?_)
                    go_loopw [11, 5] (fun i v9 wq => i = .int .i64 1 ∧ v9 = .slice A7 (m + 1) c7 ∧ wq = w7) (fun _ _ _ => 0)
                    case atStart => exact ⟨rfl, rfl, rfl⟩
                    case round =>
                      obtain ⟨rfl, rfl, rfl⟩ := hrel
                      go_wp2_with fail
                      go_roundw
                      case rel => exact ⟨j + 1, _, by omega, by go_num, hJn, hJl, ho7, hBN⟩
                      case measure => first | (simp [intOf]; done) | (simp [intOf]; omega)
                  · skip
                    obtain ⟨b, hb⟩ : ∃ b : Nat, b0 % 16 = b := ⟨_, rfl⟩
                    have hb9 : b < 16 := by rw [← hb]; exact Nat.mod_lt _ (by decide)
                    have e6 : (b0 : Int) % 16 = (b : Int) := by omega
                    have e8 : (b0 : Int).tmod 16 = (b : Int) := by rw [Int.tmod_eq_emod_of_nonneg (by omega)]; exact e6
                    have e9 : IntKind.u64.wrap 16 = 16 := rfl
                    have e10 : ¬ (16 : Int) = 0 := by decide
                    have hmy : mnyI (((1 : Nat) : Int)) = 4 := rfl
                    rw [show (((1 : Nat) : Int)) = 1 from rfl] at e2 hmy
                    have hrB : rightB 1 1 0 0 (b : Nat) = true := right_yes (by unfold RightP; omega)
                    obtain ⟨y, hy, hyo, hyk, hym⟩ := okN_word hrB (by omega)
                    have hE := fun w5 (h5 : Lw w5) => refEnc_yes 1 1 0 0 (b : Nat) w5 h5 (by omega) hrB
                    rw [hy] at hE
                    replace hE := Lib.hid hE
                    clear hy
                    replace hyk := Lib.hid hyk
                    replace hym := Lib.hid hym
                    replace hyo := Lib.hid hyo
                    clear hrB
                    have hC5 := C5.new wr 1 1 0 0 (b0 : Nat) 29
                    have xf : (wr.alloc (.cells #[.int .i64 1, .int .i64 1, .int .i64 0, .int .i64 0, .int .u64 (b0 : Nat)] 29)).frozen? ⟨wr.heap.size, 4, none⟩ = false := by simp [go_sem]
                    rw [hB8] at hC5 xf
                    have hA5 := (Below.refl wr.heap.size wr).alloc (Nat.le_refl _) (.cells #[.int .i64 1, .int .i64 1, .int .i64 0, .int .i64 0, .int .u64 (b0 : Nat)] 29)
                    go_wp2_with fail
                    generalize hW5 : wr.alloc (.cells #[.int .i64 1, .int .i64 1, .int .i64 0, .int .i64 0, .int .u64 (b0 : Nat)] 29) = W5 at *
                    obtain ⟨x0, x1, x2, x3, x4⟩ := id hC5
                    refine wp_region_tail (S := (fun w' => (w'.cell? ⟨B8, 1, none⟩ = some (.int .i64 1) ∧ w'.cell? ⟨B8, 4, none⟩ = some (.int .u64 (b0 : Nat)) ∧ w'.frozen? ⟨B8, 4, none⟩ = false) ∧ Below W5.heap.size W5 w')) (n := 8) (by kernel_rfl) ?_ (fun hHeld hInv => ?_) (by decide)
                    · (try dsimp only)
                      (first | assumption | (exact ⟨⟨x1, x4, xf⟩, (Below.refl _ _).drew⟩))
                    refine takeS 0 (v := ?_) (tailAt (by kernel_rfl)) hInv (by decide) rfl (by kernel_rfl) (by kernel_rfl) (by kernel_rfl) (fun _ _ _ h => h) (by rfl) (by assumption) ?_ (fun hInv2 => ?_)
                    rotate_left
                    · (intro w hSw; (try dsimp only at hSw); (try go_split_ands); go_simp <;> with_reducible rfl)
                    clear hInv
                    have hInv := hInv2
                    clear hInv2
                    try simp only [Act.put, List.setIfInBounds_toArray, List.set_cons_zero, List.set_cons_succ] at hInv ⊢
                    refine takeS 1 (v := ?_) (tailAt (by kernel_rfl)) hInv (by decide) rfl (by kernel_rfl) (by kernel_rfl) (by kernel_rfl) (fun _ _ _ h => h) (by rfl) (by assumption) ?_ (fun hInv2 => ?_)
                    rotate_left
                    · (intro w hSw; (try dsimp only at hSw); (try go_split_ands); go_simp <;> with_reducible rfl)
                    clear hInv
                    have hInv := hInv2
                    clear hInv2
                    try simp only [Act.put, List.setIfInBounds_toArray, List.set_cons_zero, List.set_cons_succ] at hInv ⊢
                    refine takeS 2 (v := ?_) (tailAt (by kernel_rfl)) hInv (by decide) rfl (by kernel_rfl) (by kernel_rfl) (by kernel_rfl) (fun _ _ _ h => h) (by rfl) (by assumption) ?_ (fun hInv2 => ?_)
                    rotate_left
                    · (intro w hSw; (try dsimp only at hSw); (try go_split_ands); go_simp <;> with_reducible rfl)
                    clear hInv
                    have hInv := hInv2
                    clear hInv2
                    try simp only [Act.put, List.setIfInBounds_toArray, List.set_cons_zero, List.set_cons_succ] at hInv ⊢
                    refine takeS 3 (v := ?_) (tailAt (by kernel_rfl)) hInv (by decide) rfl (by kernel_rfl) (by kernel_rfl) (by kernel_rfl) (fun _ _ _ h => h) (by rfl) (by assumption) ?_ (fun hInv2 => ?_)
                    rotate_left
                    · (intro w hSw; (try dsimp only at hSw); (try go_split_ands); go_simp <;> with_reducible rfl)
                    clear hInv
                    have hInv := hInv2
                    clear hInv2
                    try simp only [Act.put, List.setIfInBounds_toArray, List.set_cons_zero, List.set_cons_succ] at hInv ⊢
                    refine oneS 4 hInv (by decide) rfl (by kernel_rfl) (fun K hK => ?_)
                    go_simp
                    (refine (Calls.mono (hMn.out 1 _) ?_); rintro e w9 ⟨rfl, rfl⟩; (try rw [hmy]))
                    refine hK.out _ _ ?_ (fun hHeld2 hInv2 => ?_)
                    · (try dsimp only)
                      (first | assumption | (exact ⟨⟨x1, x4, xf⟩, (Below.refl _ _).drew⟩))
                    clear hK K hHeld hInv
                    have hHeld := hHeld2
                    have hInv := hInv2
                    clear hHeld2 hInv2
                    try simp only [Act.put, List.setIfInBounds_toArray, List.set_cons_zero, List.set_cons_succ] at hInv ⊢
                    refine takeS 5 (v := ?_) (tailAt (by kernel_rfl)) hInv (by decide) rfl (by kernel_rfl) (by kernel_rfl) (by kernel_rfl) (fun _ _ _ h => h) (by rfl) (by assumption) ?_ (fun hInv2 => ?_)
                    rotate_left
                    · (intro w hSw; (try dsimp only at hSw); (try go_split_ands); go_simp <;> with_reducible rfl)
                    clear hInv
                    have hInv := hInv2
                    clear hInv2
                    try simp only [Act.put, List.setIfInBounds_toArray, List.set_cons_zero, List.set_cons_succ] at hInv ⊢
                    refine takeS 6 (v := ?_) (tailAt (by kernel_rfl)) hInv (by decide) rfl (by kernel_rfl) (by kernel_rfl) (by kernel_rfl) (fun _ _ _ h => h) (by rfl) (by assumption) ?_ (fun hInv2 => ?_)
                    rotate_left
                    · (intro w hSw; (try dsimp only at hSw); (try go_split_ands); go_simp <;> with_reducible rfl)
                    clear hInv
                    have hInv := hInv2
                    clear hInv2
                    try simp only [Act.put, List.setIfInBounds_toArray, List.set_cons_zero, List.set_cons_succ] at hInv ⊢
                    refine takeS 7 (v := ?_) (tailAt (by kernel_rfl)) hInv (by decide) rfl (by kernel_rfl) (by kernel_rfl) (by kernel_rfl) (fun _ _ _ h => h) (by rfl) (by assumption) ?_ (fun hInv2 => ?_)
                    rotate_left
                    · (intro w hSw; (try dsimp only at hSw); (try go_split_ands); go_simp <;> with_reducible rfl)
                    clear hInv
                    have hInv := hInv2
                    clear hInv2
                    try simp only [Act.put, List.setIfInBounds_toArray, List.set_cons_zero, List.set_cons_succ] at hInv ⊢
                    refine lastS 8 rfl (by decide) (by kernel_rfl) (fun K hK => ?_)
                    go_simp
                    refine hK.out _ _ ?_
                    clear hK K
                    try simp only [Act.put, List.setIfInBounds_toArray, List.set_cons_zero, List.set_cons_succ]
                    refine wpAnyS_done (by kernel_rfl) ?_ _
                    clear hHeld hInv
                    have hD5 := hA5
                    have hC6 : C5 W5 B8 1 1 0 0 (b0 : Nat) := hC5
                    have hst : C5 ((W5.setCell ⟨B8, 4, none⟩ (.int .u64 (b : Nat))).drew) B8 1 1 0 0 (b : Nat) := by
                      obtain ⟨y0, y1, y2, y3, y4⟩ := hC6
                      refine ⟨?_, ?_, ?_, ?_, ?_⟩ <;> simp [go_sem, *]
                    have hBs : Below B8 wr ((W5.setCell ⟨B8, 4, none⟩ (.int .u64 (b : Nat))).drew) := by
                      rw [← hB8]; exact (hD5.setCell (by simp [hB8]) _).drew
                    have hBt : Below w.heap.size w ((W5.setCell ⟨B8, 4, none⟩ (.int .u64 (b : Nat))).drew) := hB.trans (hBs.mono hwB)
                    have hown5 : OwnU ((W5.setCell ⟨B8, 4, none⟩ (.int .u64 (b : Nat))).drew) w.heap.size (.slice Ar m cr) J := hown.keepG hBs hrow8.out
                    have hlw5 := hwh.out.keep hBt
                    have hB5 := hBt
                    clear hBt hBs hD5 hC6 hC5 hA5 xf x0 x1 x2 x3 x4 hW5
                    have hC5 := hst
                    clear hst
                    obtain ⟨x0, x1, x2, x3, x4⟩ := id hC5
                    generalize (W5.setCell ⟨B8, 4, none⟩ (.int .u64 (b : Nat))).drew = W9 at *
                    go_wp2_with fail
                    refine (hE.out _ hlw5).mono ?_
                    rintro e w6 ⟨rfl, hb6⟩
                    have hown6 := hown5.keep hb6
                    have hB6 := hB5.trans (hb6.mono hB5.size)
                    have hC6 := hC5.keep hb6
                    clear hown5 hC5 hB5 hlw5 hb6 hE hown hB
                    obtain ⟨v', w7, hrun, ho7, hB7, hg7, hv7⟩ := appU1 (y := y) hown6 hB6.size (by rw [hml.out]; omega) (27 : Nat)
                    have hBN := hB6.trans hB7
                    have hC7 := (hC6.keep ((Below.refl w6.heap.size w6).alloc (Nat.le_refl _) (.cells #[.int .u64 (y : Nat)] (27 : Nat)))).grown hg7 (fun e => by have := hrow8.out B8 e; omega)
                    obtain ⟨q0, q1, q2, q3, q4⟩ := hC6
                    obtain ⟨z0, z1, z2, z3, z4⟩ := id hC7
                    have hJ1 : Hid (J.length + 1 = (J ++ [y]).length) := Lib.hid (by simp)
                    obtain ⟨A7, c7, rfl⟩ := ho7.sl (m := m + 1) (by rw [← hJ1.out, hml.out])
                    clear hg7 hv7 hown6 hB6 hB7
                    have hJn : Hid (rightT (J ++ [y]) = true) := Lib.hid (hAp.out _ _ hJ.out (hOne.out y hyo.out (by have := hyk.out; omega) (by have := hyk.out; omega)))
                    have hJl : (J ++ [y]).length ≤ M := by rw [← hJ1.out, hml.out]; omega
                    clear hC7
                    go_wp2_with (at_builtin; refine wpList_append_run rfl _ _ 22 rfl _ _ _ rfl rfl hrun ?_)
                    go_loopw [11, 5] (fun i v9 wq => i = .int .i64 1 ∧ v9 = .slice A7 (m + 1) c7 ∧ wq = w7) (fun _ _ _ => 0)
                    case atStart => exact ⟨rfl, rfl, rfl⟩
                    case round =>
                      obtain ⟨rfl, rfl, rfl⟩ := hrel
                      go_wp2_with fail
                      go_roundw
                      case rel => exact ⟨j + 1, _, by omega, by go_num, hJn, hJl, ho7, hBN⟩
                      case measure => first | (simp [intOf]; done) | (simp [intOf]; omega)
                  · skip
                    obtain ⟨b, hb⟩ : ∃ b : Nat, b0 % 4 = b := ⟨_, rfl⟩
                    have hb9 : b < 4 := by rw [← hb]; exact Nat.mod_lt _ (by decide)
                    have e6 : (b0 : Int) % 4 = (b : Int) := by omega
                    have e8 : (b0 : Int).tmod 4 = (b : Int) := by rw [Int.tmod_eq_emod_of_nonneg (by omega)]; exact e6
                    have e9 : IntKind.u64.wrap 4 = 4 := rfl
                    have e10 : ¬ (4 : Int) = 0 := by decide
                    have hmy : mnyI (((2 : Nat) : Int)) = 2 := rfl
                    rw [show (((2 : Nat) : Int)) = 2 from rfl] at e2 hmy
                    have hrB : rightB 1 2 0 0 (b : Nat) = true := right_yes (by unfold RightP; omega)
                    obtain ⟨y, hy, hyo, hyk, hym⟩ := okN_word hrB (by omega)
                    have hE := fun w5 (h5 : Lw w5) => refEnc_yes 1 2 0 0 (b : Nat) w5 h5 (by omega) hrB
                    rw [hy] at hE
                    replace hE := Lib.hid hE
                    clear hy
                    replace hyk := Lib.hid hyk
                    replace hym := Lib.hid hym
                    replace hyo := Lib.hid hyo
                    clear hrB
                    have hC5 := C5.new wr 1 2 0 0 (b0 : Nat) 29
                    have xf : (wr.alloc (.cells #[.int .i64 1, .int .i64 2, .int .i64 0, .int .i64 0, .int .u64 (b0 : Nat)] 29)).frozen? ⟨wr.heap.size, 4, none⟩ = false := by simp [go_sem]
                    rw [hB8] at hC5 xf
                    have hA5 := (Below.refl wr.heap.size wr).alloc (Nat.le_refl _) (.cells #[.int .i64 1, .int .i64 2, .int .i64 0, .int .i64 0, .int .u64 (b0 : Nat)] 29)
                    go_wp2_with fail
                    generalize hW5 : wr.alloc (.cells #[.int .i64 1, .int .i64 2, .int .i64 0, .int .i64 0, .int .u64 (b0 : Nat)] 29) = W5 at *
                    obtain ⟨x0, x1, x2, x3, x4⟩ := id hC5
                    refine wp_region_tail (S := (fun w' => (w'.cell? ⟨B8, 1, none⟩ = some (.int .i64 2) ∧ w'.cell? ⟨B8, 4, none⟩ = some (.int .u64 (b0 : Nat)) ∧ w'.frozen? ⟨B8, 4, none⟩ = false) ∧ Below W5.heap.size W5 w')) (n := 8) (by kernel_rfl) ?_ (fun hHeld hInv => ?_) (by decide)
                    · (try dsimp only)
                      (first | assumption | (exact ⟨⟨x1, x4, xf⟩, (Below.refl _ _).drew⟩))
                    refine takeS 0 (v := ?_) (tailAt (by kernel_rfl)) hInv (by decide) rfl (by kernel_rfl) (by kernel_rfl) (by kernel_rfl) (fun _ _ _ h => h) (by rfl) (by assumption) ?_ (fun hInv2 => ?_)
                    rotate_left
                    · (intro w hSw; (try dsimp only at hSw); (try go_split_ands); go_simp <;> with_reducible rfl)
                    clear hInv
                    have hInv := hInv2
                    clear hInv2
                    try simp only [Act.put, List.setIfInBounds_toArray, List.set_cons_zero, List.set_cons_succ] at hInv ⊢
                    refine takeS 1 (v := ?_) (tailAt (by kernel_rfl)) hInv (by decide) rfl (by kernel_rfl) (by kernel_rfl) (by kernel_rfl) (fun _ _ _ h => h) (by rfl) (by assumption) ?_ (fun hInv2 => ?_)
                    rotate_left
                    · (intro w hSw; (try dsimp only at hSw); (try go_split_ands); go_simp <;> with_reducible rfl)
                    clear hInv
                    have hInv := hInv2
                    clear hInv2
                    try simp only [Act.put, List.setIfInBounds_toArray, List.set_cons_zero, List.set_cons_succ] at hInv ⊢
                    refine takeS 2 (v := ?_) (tailAt (by kernel_rfl)) hInv (by decide) rfl (by kernel_rfl) (by kernel_rfl) (by kernel_rfl) (fun _ _ _ h => h) (by rfl) (by assumption) ?_ (fun hInv2 => ?_)
                    rotate_left
                    · (intro w hSw; (try dsimp only at hSw); (try go_split_ands); go_simp <;> with_reducible rfl)
                    clear hInv
                    have hInv := hInv2
                    clear hInv2
                    try simp only [Act.put, List.setIfInBounds_toArray, List.set_cons_zero, List.set_cons_succ] at hInv ⊢
                    refine takeS 3 (v := ?_) (tailAt (by kernel_rfl)) hInv (by decide) rfl (by kernel_rfl) (by kernel_rfl) (by kernel_rfl) (fun _ _ _ h => h) (by rfl) (by assumption) ?_ (fun hInv2 => ?_)
                    rotate_left
                    · (intro w hSw; (try dsimp only at hSw); (try go_split_ands); go_simp <;> with_reducible rfl)
                    clear hInv
                    have hInv := hInv2
                    clear hInv2
                    try simp only [Act.put, List.setIfInBounds_toArray, List.set_cons_zero, List.set_cons_succ] at hInv ⊢
                    refine oneS 4 hInv (by decide) rfl (by kernel_rfl) (fun K hK => ?_)
                    go_simp
                    (refine (Calls.mono (hMn.out 2 _) ?_); rintro e w9 ⟨rfl, rfl⟩; (try rw [hmy]))
                    refine hK.out _ _ ?_ (fun hHeld2 hInv2 => ?_)
                    · (try dsimp only)
                      (first | assumption | (exact ⟨⟨x1, x4, xf⟩, (Below.refl _ _).drew⟩))
                    clear hK K hHeld hInv
                    have hHeld := hHeld2
                    have hInv := hInv2
                    clear hHeld2 hInv2
                    try simp only [Act.put, List.setIfInBounds_toArray, List.set_cons_zero, List.set_cons_succ] at hInv ⊢
                    refine takeS 5 (v := ?_) (tailAt (by kernel_rfl)) hInv (by decide) rfl (by kernel_rfl) (by kernel_rfl) (by kernel_rfl) (fun _ _ _ h => h) (by rfl) (by assumption) ?_ (fun hInv2 => ?_)
                    rotate_left
                    · (intro w hSw; (try dsimp only at hSw); (try go_split_ands); go_simp <;> with_reducible rfl)
                    clear hInv
                    have hInv := hInv2
                    clear hInv2
                    try simp only [Act.put, List.setIfInBounds_toArray, List.set_cons_zero, List.set_cons_succ] at hInv ⊢
                    refine takeS 6 (v := ?_) (tailAt (by kernel_rfl)) hInv (by decide) rfl (by kernel_rfl) (by kernel_rfl) (by kernel_rfl) (fun _ _ _ h => h) (by rfl) (by assumption) ?_ (fun hInv2 => ?_)
                    rotate_left
                    · (intro w hSw; (try dsimp only at hSw); (try go_split_ands); go_simp <;> with_reducible rfl)
                    clear hInv
                    have hInv := hInv2
                    clear hInv2
                    try simp only [Act.put, List.setIfInBounds_toArray, List.set_cons_zero, List.set_cons_succ] at hInv ⊢
                    refine takeS 7 (v := ?_) (tailAt (by kernel_rfl)) hInv (by decide) rfl (by kernel_rfl) (by kernel_rfl) (by kernel_rfl) (fun _ _ _ h => h) (by rfl) (by assumption) ?_ (fun hInv2 => ?_)
                    rotate_left
                    · (intro w hSw; (try dsimp only at hSw); (try go_split_ands); go_simp <;> with_reducible rfl)
                    clear hInv
                    have hInv := hInv2
                    clear hInv2
                    try simp only [Act.put, List.setIfInBounds_toArray, List.set_cons_zero, List.set_cons_succ] at hInv ⊢
                    refine lastS 8 rfl (by decide) (by kernel_rfl) (fun K hK => ?_)
                    go_simp
                    refine hK.out _ _ ?_
                    clear hK K
                    try simp only [Act.put, List.setIfInBounds_toArray, List.set_cons_zero, List.set_cons_succ]
                    refine wpAnyS_done (by kernel_rfl) ?_ _
                    clear hHeld hInv
                    have hD5 := hA5
                    have hC6 : C5 W5 B8 1 2 0 0 (b0 : Nat) := hC5
                    have hst : C5 ((W5.setCell ⟨B8, 4, none⟩ (.int .u64 (b : Nat))).drew) B8 1 2 0 0 (b : Nat) := by
                      obtain ⟨y0, y1, y2, y3, y4⟩ := hC6
                      refine ⟨?_, ?_, ?_, ?_, ?_⟩ <;> simp [go_sem, *]
                    have hBs : Below B8 wr ((W5.setCell ⟨B8, 4, none⟩ (.int .u64 (b : Nat))).drew) := by
                      rw [← hB8]; exact (hD5.setCell (by simp [hB8]) _).drew
                    have hBt : Below w.heap.size w ((W5.setCell ⟨B8, 4, none⟩ (.int .u64 (b : Nat))).drew) := hB.trans (hBs.mono hwB)
                    have hown5 : OwnU ((W5.setCell ⟨B8, 4, none⟩ (.int .u64 (b : Nat))).drew) w.heap.size (.slice Ar m cr) J := hown.keepG hBs hrow8.out
                    have hlw5 := hwh.out.keep hBt
                    have hB5 := hBt
                    clear hBt hBs hD5 hC6 hC5 hA5 xf x0 x1 x2 x3 x4 hW5
                    have hC5 := hst
                    clear hst
                    obtain ⟨x0, x1, x2, x3, x4⟩ := id hC5
                    generalize (W5.setCell ⟨B8, 4, none⟩ (.int .u64 (b : Nat))).drew = W9 at *
                    go_wp2_with fail
                    refine (hE.out _ hlw5).mono ?_
                    rintro e w6 ⟨rfl, hb6⟩
                    have hown6 := hown5.keep hb6
                    have hB6 := hB5.trans (hb6.mono hB5.size)
                    have hC6 := hC5.keep hb6
                    clear hown5 hC5 hB5 hlw5 hb6 hE hown hB
                    obtain ⟨v', w7, hrun, ho7, hB7, hg7, hv7⟩ := appU1 (y := y) hown6 hB6.size (by rw [hml.out]; omega) (27 : Nat)
                    have hBN := hB6.trans hB7
                    have hC7 := (hC6.keep ((Below.refl w6.heap.size w6).alloc (Nat.le_refl _) (.cells #[.int .u64 (y : Nat)] (27 : Nat)))).grown hg7 (fun e => by have := hrow8.out B8 e; omega)
                    obtain ⟨q0, q1, q2, q3, q4⟩ := hC6
                    obtain ⟨z0, z1, z2, z3, z4⟩ := id hC7
                    have hJ1 : Hid (J.length + 1 = (J ++ [y]).length) := Lib.hid (by simp)
                    obtain ⟨A7, c7, rfl⟩ := ho7.sl (m := m + 1) (by rw [← hJ1.out, hml.out])
                    clear hg7 hv7 hown6 hB6 hB7
                    have hJn : Hid (rightT (J ++ [y]) = true) := Lib.hid (hAp.out _ _ hJ.out (hOne.out y hyo.out (by have := hyk.out; omega) (by have := hyk.out; omega)))
                    have hJl : (J ++ [y]).length ≤ M := by rw [← hJ1.out, hml.out]; omega
                    clear hC7
                    go_wp2_with (at_builtin; refine wpList_append_run rfl _ _ 22 rfl _ _ _ rfl rfl hrun ?_)
                    go_loopw [11, 5] (fun i v9 wq => i = .int .i64 1 ∧ v9 = .slice A7 (m + 1) c7 ∧ wq = w7) (fun _ _ _ => 0)
                    case atStart => exact ⟨rfl, rfl, rfl⟩
                    case round =>
                      obtain ⟨rfl, rfl, rfl⟩ := hrel
                      go_wp2_with fail
                      go_roundw
                      case rel => exact ⟨j + 1, _, by omega, by go_num, hJn, hJl, ho7, hBN⟩
                      case measure => first | (simp [intOf]; done) | (simp [intOf]; omega)
                · have hr2 : x % 6 = 2 := by omega
                  have e0 : (x : Int) % 6 = (2 : Int) := by omega
                  obtain ⟨c, hc⟩ : ∃ c : Nat, x / 8 % 3 = c := ⟨_, rfl⟩
                  have hc3 : c < 3 := by omega
                  have e2 : (x : Int) / 8 % 3 = (c : Int) := by omega
                  obtain ⟨b0, hb0⟩ : ∃ b0 : Nat, x / 32 = b0 := ⟨_, rfl⟩
                  have hb08 : b0 < 2048 := by omega
                  have e3 : (x : Int) / 32 = (b0 : Int) := by omega
                  have e7 : IntKind.u64.wrap (b0 : Int) = (b0 : Int) := by rw [IntKind.wrap_u64]; omega
                  clear hb0 hc
                  have hcc : c = 0 ∨ c = 1 ∨ c = 2 := by omega
                  rcases hcc with rfl | rfl | rfl
                  · skip
                    obtain ⟨b, hb⟩ : ∃ b : Nat, b0 % 256 = b := ⟨_, rfl⟩
                    have hb9 : b < 256 := by rw [← hb]; exact Nat.mod_lt _ (by decide)
                    have e6 : (b0 : Int) % 256 = (b : Int) := by omega
                    have e8 : (b0 : Int).tmod 256 = (b : Int) := by rw [Int.tmod_eq_emod_of_nonneg (by omega)]; exact e6
                    have e9 : IntKind.u64.wrap 256 = 256 := rfl
                    have e10 : ¬ (256 : Int) = 0 := by decide
                    have hmy : mnyI (((0 : Nat) : Int)) = 8 := rfl
                    rw [show (((0 : Nat) : Int)) = 0 from rfl] at e2 hmy
                    have hrB : rightB 1 0 0 0 (b : Nat) = true := right_yes (by unfold RightP; omega)
                    obtain ⟨y, hy, hyo, hyk, hym⟩ := okN_word hrB (by omega)
                    have hE := fun w5 (h5 : Lw w5) => refEnc_yes 1 0 0 0 (b : Nat) w5 h5 (by omega) hrB
                    rw [hy] at hE
                    replace hE := Lib.hid hE
                    clear hy
                    replace hyk := Lib.hid hyk
                    replace hym := Lib.hid hym
                    replace hyo := Lib.hid hyo
                    clear hrB
                    have hC5 := C5.new wr 1 0 0 0 (b0 : Nat) 29
                    have xf : (wr.alloc (.cells #[.int .i64 1, .int .i64 0, .int .i64 0, .int .i64 0, .int .u64 (b0 : Nat)] 29)).frozen? ⟨wr.heap.size, 4, none⟩ = false := by simp [go_sem]
                    rw [hB8] at hC5 xf
                    have hA5 := (Below.refl wr.heap.size wr).alloc (Nat.le_refl _) (.cells #[.int .i64 1, .int .i64 0, .int .i64 0, .int .i64 0, .int .u64 (b0 : Nat)] 29)
                    go_wp2_with fail
                    generalize hW5 : wr.alloc (.cells #[.int .i64 1, .int .i64 0, .int .i64 0, .int .i64 0, .int .u64 (b0 : Nat)] 29) = W5 at *
                    obtain ⟨x0, x1, x2, x3, x4⟩ := id hC5
                    refine wp_region_tail (S := (fun w' => (w'.cell? ⟨B8, 1, none⟩ = some (.int .i64 0) ∧ w'.cell? ⟨B8, 4, none⟩ = some (.int .u64 (b0 : Nat)) ∧ w'.frozen? ⟨B8, 4, none⟩ = false) ∧ Below W5.heap.size W5 w')) (n := 8) (by kernel_rfl) ?_ (fun hHeld hInv => ?_) (by decide)
                    · (try dsimp only)
                      (first | assumption | (exact ⟨⟨x1, x4, xf⟩, (Below.refl _ _).drew⟩))
                    refine takeS 0 (v := ?_) (tailAt (by kernel_rfl)) hInv (by decide) rfl (by kernel_rfl) (by kernel_rfl) (by kernel_rfl) (fun _ _ _ h => h) (by rfl) (by assumption) ?_ (fun hInv2 => ?_)
                    rotate_left
                    · (intro w hSw; (try dsimp only at hSw); (try go_split_ands); go_simp <;> with_reducible rfl)
                    clear hInv
                    have hInv := hInv2
                    clear hInv2
                    try simp only [Act.put, List.setIfInBounds_toArray, List.set_cons_zero, List.set_cons_succ] at hInv ⊢
                    refine takeS 1 (v := ?_) (tailAt (by kernel_rfl)) hInv (by decide) rfl (by kernel_rfl) (by kernel_rfl) (by kernel_rfl) (fun _ _ _ h => h) (by rfl) (by assumption) ?_ (fun hInv2 => ?_)
                    rotate_left
                    · (intro w hSw; (try dsimp only at hSw); (try go_split_ands); go_simp <;> with_reducible rfl)
                    clear hInv
                    have hInv := hInv2
                    clear hInv2
                    try simp only [Act.put, List.setIfInBounds_toArray, List.set_cons_zero, List.set_cons_succ] at hInv ⊢
                    refine takeS 2 (v := ?_) (tailAt (by kernel_rfl)) hInv (by decide) rfl (by kernel_rfl) (by kernel_rfl) (by kernel_rfl) (fun _ _ _ h => h) (by rfl) (by assumption) ?_ (fun hInv2 => ?_)
                    rotate_left
                    · (intro w hSw; (try dsimp only at hSw); (try go_split_ands); go_simp <;> with_reducible rfl)
                    clear hInv
                    have hInv := hInv2
                    clear hInv2
                    try simp only [Act.put, List.setIfInBounds_toArray, List.set_cons_zero, List.set_cons_succ] at hInv ⊢
                    refine takeS 3 (v := ?_) (tailAt (by kernel_rfl)) hInv (by decide) rfl (by kernel_rfl) (by kernel_rfl) (by kernel_rfl) (fun _ _ _ h => h) (by rfl) (by assumption) ?_ (fun hInv2 => ?_)
                    rotate_left
                    · (intro w hSw; (try dsimp only at hSw); (try go_split_ands); go_simp <;> with_reducible rfl)
                    clear hInv
                    have hInv := hInv2
                    clear hInv2
                    try simp only [Act.put, List.setIfInBounds_toArray, List.set_cons_zero, List.set_cons_succ] at hInv ⊢
                    refine oneS 4 hInv (by decide) rfl (by kernel_rfl) (fun K hK => ?_)
                    go_simp
                    (refine (Calls.mono (hMn.out 0 _) ?_); rintro e w9 ⟨rfl, rfl⟩; (try rw [hmy]))
                    refine hK.out _ _ ?_ (fun hHeld2 hInv2 => ?_)
                    · (try dsimp only)
                      (first | assumption | (exact ⟨⟨x1, x4, xf⟩, (Below.refl _ _).drew⟩))
                    clear hK K hHeld hInv
                    have hHeld := hHeld2
                    have hInv := hInv2
                    clear hHeld2 hInv2
                    try simp only [Act.put, List.setIfInBounds_toArray, List.set_cons_zero, List.set_cons_succ] at hInv ⊢
                    refine takeS 5 (v := ?_) (tailAt (by kernel_rfl)) hInv (by decide) rfl (by kernel_rfl) (by kernel_rfl) (by kernel_rfl) (fun _ _ _ h => h) (by rfl) (by assumption) ?_ (fun hInv2 => ?_)
                    rotate_left
                    · (intro w hSw; (try dsimp only at hSw); (try go_split_ands); go_simp <;> with_reducible rfl)
                    clear hInv
                    have hInv := hInv2
                    clear hInv2
                    try simp only [Act.put, List.setIfInBounds_toArray, List.set_cons_zero, List.set_cons_succ] at hInv ⊢
                    refine takeS 6 (v := ?_) (tailAt (by kernel_rfl)) hInv (by decide) rfl (by kernel_rfl) (by kernel_rfl) (by kernel_rfl) (fun _ _ _ h => h) (by rfl) (by assumption) ?_ (fun hInv2 => ?_)
                    rotate_left
                    · (intro w hSw; (try dsimp only at hSw); (try go_split_ands); go_simp <;> with_reducible rfl)
                    clear hInv
                    have hInv := hInv2
                    clear hInv2
                    try simp only [Act.put, List.setIfInBounds_toArray, List.set_cons_zero, List.set_cons_succ] at hInv ⊢
                    refine takeS 7 (v := ?_) (tailAt (by kernel_rfl)) hInv (by decide) rfl (by kernel_rfl) (by kernel_rfl) (by kernel_rfl) (fun _ _ _ h => h) (by rfl) (by assumption) ?_ (fun hInv2 => ?_)
                    rotate_left
                    · (intro w hSw; (try dsimp only at hSw); (try go_split_ands); go_simp <;> with_reducible rfl)
                    clear hInv
                    have hInv := hInv2
                    clear hInv2
                    try simp only [Act.put, List.setIfInBounds_toArray, List.set_cons_zero, List.set_cons_succ] at hInv ⊢
                    refine lastS 8 rfl (by decide) (by kernel_rfl) (fun K hK => ?_)
                    go_simp
                    refine hK.out _ _ ?_
                    clear hK K
                    try simp only [Act.put, List.setIfInBounds_toArray, List.set_cons_zero, List.set_cons_succ]
                    refine wpAnyS_done (by kernel_rfl) ?_ _
                    clear hHeld hInv
                    have hD5 := hA5
                    have hC6 : C5 W5 B8 1 0 0 0 (b0 : Nat) := hC5
                    have hst : C5 ((W5.setCell ⟨B8, 4, none⟩ (.int .u64 (b : Nat))).drew) B8 1 0 0 0 (b : Nat) := by
                      obtain ⟨y0, y1, y2, y3, y4⟩ := hC6
                      refine ⟨?_, ?_, ?_, ?_, ?_⟩ <;> simp [go_sem, *]
                    have hBs : Below B8 wr ((W5.setCell ⟨B8, 4, none⟩ (.int .u64 (b : Nat))).drew) := by
                      rw [← hB8]; exact (hD5.setCell (by simp [hB8]) _).drew
                    have hBt : Below w.heap.size w ((W5.setCell ⟨B8, 4, none⟩ (.int .u64 (b : Nat))).drew) := hB.trans (hBs.mono hwB)
                    have hown5 : OwnU ((W5.setCell ⟨B8, 4, none⟩ (.int .u64 (b : Nat))).drew) w.heap.size (.slice Ar m cr) J := hown.keepG hBs hrow8.out
                    have hlw5 := hwh.out.keep hBt
                    have hB5 := hBt
                    clear hBt hBs hD5 hC6 hC5 hA5 xf x0 x1 x2 x3 x4 hW5
                    have hC5 := hst
                    clear hst
                    obtain ⟨x0, x1, x2, x3, x4⟩ := id hC5
                    generalize (W5.setCell ⟨B8, 4, none⟩ (.int .u64 (b : Nat))).drew = W9 at *
                    go_wp2_with fail
                    refine (hE.out _ hlw5).mono ?_
                    rintro e w6 ⟨rfl, hb6⟩
                    have hown6 := hown5.keep hb6
                    have hB6 := hB5.trans (hb6.mono hB5.size)
                    have hC6 := hC5.keep hb6
                    clear hown5 hC5 hB5 hlw5 hb6 hE hown hB
                    obtain ⟨v', w7, hrun, ho7, hB7, hg7, hv7⟩ := appU1 (y := y) hown6 hB6.size (by rw [hml.out]; omega) (27 : Nat)
                    have hBN := hB6.trans hB7
                    have hC7 := (hC6.keep ((Below.refl w6.heap.size w6).alloc (Nat.le_refl _) (.cells #[.int .u64 (y : Nat)] (27 : Nat)))).grown hg7 (fun e => by have := hrow8.out B8 e; omega)
                    obtain ⟨q0, q1, q2, q3, q4⟩ := hC6
                    obtain ⟨z0, z1, z2, z3, z4⟩ := id hC7
                    have hJ1 : Hid (J.length + 1 = (J ++ [y]).length) := Lib.hid (by simp)
                    obtain ⟨A7, c7, rfl⟩ := ho7.sl (m := m + 1) (by rw [← hJ1.out, hml.out])
                    clear hg7 hv7 hown6 hB6 hB7
                    have hJn : Hid (rightT (J ++ [y]) = true) := Lib.hid (hAp.out _ _ hJ.out (hOne.out y hyo.out (by have := hyk.out; omega) (by have := hyk.out; omega)))
                    have hJl : (J ++ [y]).length ≤ M := by rw [← hJ1.out, hml.out]; omega
                    clear hC7
                    go_wp2_with (at_builtin; refine wpList_append_run rfl _ _ 22 rfl _ _ _ rfl rfl hrun ?_)
                    go_loopw [11, 5] (fun i v9 wq => i = .int .i64 1 ∧ v9 = .slice A7 (m + 1) c7 ∧ wq = w7) (fun _ _ _ => 0)
                    case atStart => exact ⟨rfl, rfl, rfl⟩
                    case round =>
                      obtain ⟨rfl, rfl, rfl⟩ := hrel
                      go_wp2_with fail
                      go_roundw
                      case rel => exact ⟨j + 1, _, by omega, by go_num, hJn, hJl, ho7, hBN⟩
                      case measure => first | (simp [intOf]; done) | (simp [intOf]; omega)
                  · skip
                    obtain ⟨b, hb⟩ : ∃ b : Nat, b0 % 16 = b := ⟨_, rfl⟩
                    have hb9 : b < 16 := by rw [← hb]; exact Nat.mod_lt _ (by decide)
                    have e6 : (b0 : Int) % 16 = (b : Int) := by omega
                    have e8 : (b0 : Int).tmod 16 = (b : Int) := by rw [Int.tmod_eq_emod_of_nonneg (by omega)]; exact e6
                    have e9 : IntKind.u64.wrap 16 = 16 := rfl
                    have e10 : ¬ (16 : Int) = 0 := by decide
                    have hmy : mnyI (((1 : Nat) : Int)) = 4 := rfl
                    rw [show (((1 : Nat) : Int)) = 1 from rfl] at e2 hmy
                    have hrB : rightB 1 1 0 0 (b : Nat) = true := right_yes (by unfold RightP; omega)
                    obtain ⟨y, hy, hyo, hyk, hym⟩ := okN_word hrB (by omega)
                    have hE := fun w5 (h5 : Lw w5) => refEnc_yes 1 1 0 0 (b : Nat) w5 h5 (by omega) hrB
                    rw [hy] at hE
                    replace hE := Lib.hid hE
                    clear hy
                    replace hyk := Lib.hid hyk
                    replace hym := Lib.hid hym
                    replace hyo := Lib.hid hyo
                    clear hrB
                    have hC5 := C5.new wr 1 1 0 0 (b0 : Nat) 29
                    have xf : (wr.alloc (.cells #[.int .i64 1, .int .i64 1, .int .i64 0, .int .i64 0, .int .u64 (b0 : Nat)] 29)).frozen? ⟨wr.heap.size, 4, none⟩ = false := by simp [go_sem]
                    rw [hB8] at hC5 xf
                    have hA5 := (Below.refl wr.heap.size wr).alloc (Nat.le_refl _) (.cells #[.int .i64 1, .int .i64 1, .int .i64 0, .int .i64 0, .int .u64 (b0 : Nat)] 29)
                    go_wp2_with fail
                    generalize hW5 : wr.alloc (.cells #[.int .i64 1, .int .i64 1, .int .i64 0, .int .i64 0, .int .u64 (b0 : Nat)] 29) = W5 at *
                    obtain ⟨x0, x1, x2, x3, x4⟩ := id hC5
                    refine wp_region_tail (S := (fun w' => (w'.cell? ⟨B8, 1, none⟩ = some (.int .i64 1) ∧ w'.cell? ⟨B8, 4, none⟩ = some (.int .u64 (b0 : Nat)) ∧ w'.frozen? ⟨B8, 4, none⟩ = false) ∧ Below W5.heap.size W5 w')) (n := 8) (by kernel_rfl) ?_ (fun hHeld hInv => ?_) (by decide)
                    · (try dsimp only)
                      (first | assumption | (exact ⟨⟨x1, x4, xf⟩, (Below.refl _ _).drew⟩))
                    refine takeS 0 (v := ?_) (tailAt (by kernel_rfl)) hInv (by decide) rfl (by kernel_rfl) (by kernel_rfl) (by kernel_rfl) (fun _ _ _ h => h) (by rfl) (by assumption) ?_ (fun hInv2 => ?_)
                    rotate_left
                    · (intro w hSw; (try dsimp only at hSw); (try go_split_ands); go_simp <;> with_reducible rfl)
                    clear hInv
                    have hInv := hInv2
                    clear hInv2
                    try simp only [Act.put, List.setIfInBounds_toArray, List.set_cons_zero, List.set_cons_succ] at hInv ⊢
                    refine takeS 1 (v := ?_) (tailAt (by kernel_rfl)) hInv (by decide) rfl (by kernel_rfl) (by kernel_rfl) (by kernel_rfl) (fun _ _ _ h => h) (by rfl) (by assumption) ?_ (fun hInv2 => ?_)
                    rotate_left
                    · (intro w hSw; (try dsimp only at hSw); (try go_split_ands); go_simp <;> with_reducible rfl)
                    clear hInv
                    have hInv := hInv2
                    clear hInv2
                    try simp only [Act.put, List.setIfInBounds_toArray, List.set_cons_zero, List.set_cons_succ] at hInv ⊢
                    refine takeS 2 (v := ?_) (tailAt (by kernel_rfl)) hInv (by decide) rfl (by kernel_rfl) (by kernel_rfl) (by kernel_rfl) (fun _ _ _ h => h) (by rfl) (by assumption) ?_ (fun hInv2 => ?_)
                    rotate_left
                    · (intro w hSw; (try dsimp only at hSw); (try go_split_ands); go_simp <;> with_reducible rfl)
                    clear hInv
                    have hInv := hInv2
                    clear hInv2
                    try simp only [Act.put, List.setIfInBounds_toArray, List.set_cons_zero, List.set_cons_succ] at hInv ⊢
                    refine takeS 3 (v := ?_) (tailAt (by kernel_rfl)) hInv (by decide) rfl (by kernel_rfl) (by kernel_rfl) (by kernel_rfl) (fun _ _ _ h => h) (by rfl) (by assumption) ?_ (fun hInv2 => ?_)
                    rotate_left
                    · (intro w hSw; (try dsimp only at hSw); (try go_split_ands); go_simp <;> with_reducible rfl)
                    clear hInv
                    have hInv := hInv2
                    clear hInv2
                    try simp only [Act.put, List.setIfInBounds_toArray, List.set_cons_zero, List.set_cons_succ] at hInv ⊢
                    refine oneS 4 hInv (by decide) rfl (by kernel_rfl) (fun K hK => ?_)
                    go_simp
                    (refine (Calls.mono (hMn.out 1 _) ?_); rintro e w9 ⟨rfl, rfl⟩; (try rw [hmy]))
                    refine hK.out _ _ ?_ (fun hHeld2 hInv2 => ?_)
                    · (try dsimp only)
                      (first | assumption | (exact ⟨⟨x1, x4, xf⟩, (Below.refl _ _).drew⟩))
                    clear hK K hHeld hInv
                    have hHeld := hHeld2
                    have hInv := hInv2
                    clear hHeld2 hInv2
                    try simp only [Act.put, List.setIfInBounds_toArray, List.set_cons_zero, List.set_cons_succ] at hInv ⊢
                    refine takeS 5 (v := ?_) (tailAt (by kernel_rfl)) hInv (by decide) rfl (by kernel_rfl) (by kernel_rfl) (by kernel_rfl) (fun _ _ _ h => h) (by rfl) (by assumption) ?_ (fun hInv2 => ?_)
                    rotate_left
                    · (intro w hSw; (try dsimp only at hSw); (try go_split_ands); go_simp <;> with_reducible rfl)
                    clear hInv
                    have hInv := hInv2
                    clear hInv2
                    try simp only [Act.put, List.setIfInBounds_toArray, List.set_cons_zero, List.set_cons_succ] at hInv ⊢
                    refine takeS 6 (v := ?_) (tailAt (by kernel_rfl)) hInv (by decide) rfl (by kernel_rfl) (by kernel_rfl) (by kernel_rfl) (fun _ _ _ h => h) (by rfl) (by assumption) ?_ (fun hInv2 => ?_)
                    rotate_left
                    · (intro w hSw; (try dsimp only at hSw); (try go_split_ands); go_simp <;> with_reducible rfl)
                    clear hInv
                    have hInv := hInv2
                    clear hInv2
                    try simp only [Act.put, List.setIfInBounds_toArray, List.set_cons_zero, List.set_cons_succ] at hInv ⊢
                    refine takeS 7 (v := ?_) (tailAt (by kernel_rfl)) hInv (by decide) rfl (by kernel_rfl) (by kernel_rfl) (by kernel_rfl) (fun _ _ _ h => h) (by rfl) (by assumption) ?_ (fun hInv2 => ?_)
                    rotate_left
                    · (intro w hSw; (try dsimp only at hSw); (try go_split_ands); go_simp <;> with_reducible rfl)
                    clear hInv
                    have hInv := hInv2
                    clear hInv2
                    try simp only [Act.put, List.setIfInBounds_toArray, List.set_cons_zero, List.set_cons_succ] at hInv ⊢
                    refine lastS 8 rfl (by decide) (by kernel_rfl) (fun K hK => ?_)
                    go_simp
                    refine hK.out _ _ ?_
                    clear hK K
                    try simp only [Act.put, List.setIfInBounds_toArray, List.set_cons_zero, List.set_cons_succ]
                    refine wpAnyS_done (by kernel_rfl) ?_ _
                    clear hHeld hInv
                    have hD5 := hA5
                    have hC6 : C5 W5 B8 1 1 0 0 (b0 : Nat) := hC5
                    have hst : C5 ((W5.setCell ⟨B8, 4, none⟩ (.int .u64 (b : Nat))).drew) B8 1 1 0 0 (b : Nat) := by
                      obtain ⟨y0, y1, y2, y3, y4⟩ := hC6
                      refine ⟨?_, ?_, ?_, ?_, ?_⟩ <;> simp [go_sem, *]
                    have hBs : Below B8 wr ((W5.setCell ⟨B8, 4, none⟩ (.int .u64 (b : Nat))).drew) := by
                      rw [← hB8]; exact (hD5.setCell (by simp [hB8]) _).drew
                    have hBt : Below w.heap.size w ((W5.setCell ⟨B8, 4, none⟩ (.int .u64 (b : Nat))).drew) := hB.trans (hBs.mono hwB)
                    have hown5 : OwnU ((W5.setCell ⟨B8, 4, none⟩ (.int .u64 (b : Nat))).drew) w.heap.size (.slice Ar m cr) J := hown.keepG hBs hrow8.out
                    have hlw5 := hwh.out.keep hBt
                    have hB5 := hBt
                    clear hBt hBs hD5 hC6 hC5 hA5 xf x0 x1 x2 x3 x4 hW5
                    have hC5 := hst
                    clear hst
                    obtain ⟨x0, x1, x2, x3, x4⟩ := id hC5
                    generalize (W5.setCell ⟨B8, 4, none⟩ (.int .u64 (b : Nat))).drew = W9 at *
                    go_wp2_with fail
                    refine (hE.out _ hlw5).mono ?_
                    rintro e w6 ⟨rfl, hb6⟩
                    have hown6 := hown5.keep hb6
                    have hB6 := hB5.trans (hb6.mono hB5.size)
                    have hC6 := hC5.keep hb6
                    clear hown5 hC5 hB5 hlw5 hb6 hE hown hB
                    obtain ⟨v', w7, hrun, ho7, hB7, hg7, hv7⟩ := appU1 (y := y) hown6 hB6.size (by rw [hml.out]; omega) (27 : Nat)
                    have hBN := hB6.trans hB7
                    have hC7 := (hC6.keep ((Below.refl w6.heap.size w6).alloc (Nat.le_refl _) (.cells #[.int .u64 (y : Nat)] (27 : Nat)))).grown hg7 (fun e => by have := hrow8.out B8 e; omega)
                    obtain ⟨q0, q1, q2, q3, q4⟩ := hC6
                    obtain ⟨z0, z1, z2, z3, z4⟩ := id hC7
                    have hJ1 : Hid (J.length + 1 = (J ++ [y]).length) := Lib.hid (by simp)
                    obtain ⟨A7, c7, rfl⟩ := ho7.sl (m := m + 1) (by rw [← hJ1.out, hml.out])
                    clear hg7 hv7 hown6 hB6 hB7
                    have hJn : Hid (rightT (J ++ [y]) = true) := Lib.hid (hAp.out _ _ hJ.out (hOne.out y hyo.out (by have := hyk.out; omega) (by have := hyk.out; omega)))
                    have hJl : (J ++ [y]).length ≤ M := by rw [← hJ1.out, hml.out]; omega
                    clear hC7
                    go_wp2_with (at_builtin; refine wpList_append_run rfl _ _ 22 rfl _ _ _ rfl rfl hrun ?_)
                    go_loopw [11, 5] (fun i v9 wq => i = .int .i64 1 ∧ v9 = .slice A7 (m + 1) c7 ∧ wq = w7) (fun _ _ _ => 0)
                    case atStart => exact ⟨rfl, rfl, rfl⟩
                    case round =>
                      obtain ⟨rfl, rfl, rfl⟩ := hrel
                      go_wp2_with fail
                      go_roundw
                      case rel => exact ⟨j + 1, _, by omega, by go_num, hJn, hJl, ho7, hBN⟩
                      case measure => first | (simp [intOf]; done) | (simp [intOf]; omega)
                  · skip
                    obtain ⟨b, hb⟩ : ∃ b : Nat, b0 % 4 = b := ⟨_, rfl⟩
                    have hb9 : b < 4 := by rw [← hb]; exact Nat.mod_lt _ (by decide)
                    have e6 : (b0 : Int) % 4 = (b : Int) := by omega
                    have e8 : (b0 : Int).tmod 4 = (b : Int) := by rw [Int.tmod_eq_emod_of_nonneg (by omega)]; exact e6
                    have e9 : IntKind.u64.wrap 4 = 4 := rfl
                    have e10 : ¬ (4 : Int) = 0 := by decide
                    have hmy : mnyI (((2 : Nat) : Int)) = 2 := rfl
                    rw [show (((2 : Nat) : Int)) = 2 from rfl] at e2 hmy
                    have hrB : rightB 1 2 0 0 (b : Nat) = true := right_yes (by unfold RightP; omega)
                    obtain ⟨y, hy, hyo, hyk, hym⟩ := okN_word hrB (by omega)
                    have hE := fun w5 (h5 : Lw w5) => refEnc_yes 1 2 0 0 (b : Nat) w5 h5 (by omega) hrB
                    rw [hy] at hE
                    replace hE := Lib.hid hE
                    clear hy
                    replace hyk := Lib.hid hyk
                    replace hym := Lib.hid hym
                    replace hyo := Lib.hid hyo
                    clear hrB
                    have hC5 := C5.new wr 1 2 0 0 (b0 : Nat) 29
                    have xf : (wr.alloc (.cells #[.int .i64 1, .int .i64 2, .int .i64 0, .int .i64 0, .int .u64 (b0 : Nat)] 29)).frozen? ⟨wr.heap.size, 4, none⟩ = false := by simp [go_sem]
                    rw [hB8] at hC5 xf
                    have hA5 := (Below.refl wr.heap.size wr).alloc (Nat.le_refl _) (.cells #[.int .i64 1, .int .i64 2, .int .i64 0, .int .i64 0, .int .u64 (b0 : Nat)] 29)
                    go_wp2_with fail
                    generalize hW5 : wr.alloc (.cells #[.int .i64 1, .int .i64 2, .int .i64 0, .int .i64 0, .int .u64 (b0 : Nat)] 29) = W5 at *
                    obtain ⟨x0, x1, x2, x3, x4⟩ := id hC5
                    refine wp_region_tail (S := (fun w' => (w'.cell? ⟨B8, 1, none⟩ = some (.int .i64 2) ∧ w'.cell? ⟨B8, 4, none⟩ = some (.int .u64 (b0 : Nat)) ∧ w'.frozen? ⟨B8, 4, none⟩ = false) ∧ Below W5.heap.size W5 w')) (n := 8) (by kernel_rfl) ?_ (fun hHeld hInv => ?_) (by decide)
                    · (try dsimp only)
                      (first | assumption | (exact ⟨⟨x1, x4, xf⟩, (Below.refl _ _).drew⟩))
                    refine takeS 0 (v := ?_) (tailAt (by kernel_rfl)) hInv (by decide) rfl (by kernel_rfl) (by kernel_rfl) (by kernel_rfl) (fun _ _ _ h => h) (by rfl) (by assumption) ?_ (fun hInv2 => ?_)
                    rotate_left
                    · (intro w hSw; (try dsimp only at hSw); (try go_split_ands); go_simp <;> with_reducible rfl)
                    clear hInv
                    have hInv := hInv2
                    clear hInv2
                    try simp only [Act.put, List.setIfInBounds_toArray, List.set_cons_zero, List.set_cons_succ] at hInv ⊢
                    refine takeS 1 (v := ?_) (tailAt (by kernel_rfl)) hInv (by decide) rfl (by kernel_rfl) (by kernel_rfl) (by kernel_rfl) (fun _ _ _ h => h) (by rfl) (by assumption) ?_ (fun hInv2 => ?_)
                    rotate_left
                    · (intro w hSw; (try dsimp only at hSw); (try go_split_ands); go_simp <;> with_reducible rfl)
                    clear hInv
                    have hInv := hInv2
                    clear hInv2
                    try simp only [Act.put, List.setIfInBounds_toArray, List.set_cons_zero, List.set_cons_succ] at hInv ⊢
                    refine takeS 2 (v := ?_) (tailAt (by kernel_rfl)) hInv (by decide) rfl (by kernel_rfl) (by kernel_rfl) (by kernel_rfl) (fun _ _ _ h => h) (by rfl) (by assumption) ?_ (fun hInv2 => ?_)
                    rotate_left
                    · (intro w hSw; (try dsimp only at hSw); (try go_split_ands); go_simp <;> with_reducible rfl)
                    clear hInv
                    have hInv := hInv2
                    clear hInv2
                    try simp only [Act.put, List.setIfInBounds_toArray, List.set_cons_zero, List.set_cons_succ] at hInv ⊢
                    refine takeS 3 (v := ?_) (tailAt (by kernel_rfl)) hInv (by decide) rfl (by kernel_rfl) (by kernel_rfl) (by kernel_rfl) (fun _ _ _ h => h) (by rfl) (by assumption) ?_ (fun hInv2 => ?_)
                    rotate_left
                    · (intro w hSw; (try dsimp only at hSw); (try go_split_ands); go_simp <;> with_reducible rfl)
                    clear hInv
                    have hInv := hInv2
                    clear hInv2
                    try simp only [Act.put, List.setIfInBounds_toArray, List.set_cons_zero, List.set_cons_succ] at hInv ⊢
                    refine oneS 4 hInv (by decide) rfl (by kernel_rfl) (fun K hK => ?_)
                    go_simp
                    (refine (Calls.mono (hMn.out 2 _) ?_); rintro e w9 ⟨rfl, rfl⟩; (try rw [hmy]))
                    refine hK.out _ _ ?_ (fun hHeld2 hInv2 => ?_)
                    · (try dsimp only)
                      (first | assumption | (exact ⟨⟨x1, x4, xf⟩, (Below.refl _ _).drew⟩))
                    clear hK K hHeld hInv
                    have hHeld := hHeld2
                    have hInv := hInv2
                    clear hHeld2 hInv2
                    try simp only [Act.put, List.setIfInBounds_toArray, List.set_cons_zero, List.set_cons_succ] at hInv ⊢
                    refine takeS 5 (v := ?_) (tailAt (by kernel_rfl)) hInv (by decide) rfl (by kernel_rfl) (by kernel_rfl) (by kernel_rfl) (fun _ _ _ h => h) (by rfl) (by assumption) ?_ (fun hInv2 => ?_)
                    rotate_left
                    · (intro w hSw; (try dsimp only at hSw); (try go_split_ands); go_simp <;> with_reducible rfl)
                    clear hInv
                    have hInv := hInv2
                    clear hInv2
                    try simp only [Act.put, List.setIfInBounds_toArray, List.set_cons_zero, List.set_cons_succ] at hInv ⊢
                    refine takeS 6 (v := ?_) (tailAt (by kernel_rfl)) hInv (by decide) rfl (by kernel_rfl) (by kernel_rfl) (by kernel_rfl) (fun _ _ _ h => h) (by rfl) (by assumption) ?_ (fun hInv2 => ?_)
                    rotate_left
                    · (intro w hSw; (try dsimp only at hSw); (try go_split_ands); go_simp <;> with_reducible rfl)
                    clear hInv
                    have hInv := hInv2
                    clear hInv2
                    try simp only [Act.put, List.setIfInBounds_toArray, List.set_cons_zero, List.set_cons_succ] at hInv ⊢
                    refine takeS 7 (v := ?_) (tailAt (by kernel_rfl)) hInv (by decide) rfl (by kernel_rfl) (by kernel_rfl) (by kernel_rfl) (fun _ _ _ h => h) (by rfl) (by assumption) ?_ (fun hInv2 => ?_)
                    rotate_left
                    · (intro w hSw; (try dsimp only at hSw); (try go_split_ands); go_simp <;> with_reducible rfl)
                    clear hInv
                    have hInv := hInv2
                    clear hInv2
                    try simp only [Act.put, List.setIfInBounds_toArray, List.set_cons_zero, List.set_cons_succ] at hInv ⊢
                    refine lastS 8 rfl (by decide) (by kernel_rfl) (fun K hK => ?_)
                    go_simp
                    refine hK.out _ _ ?_
                    clear hK K
                    try simp only [Act.put, List.setIfInBounds_toArray, List.set_cons_zero, List.set_cons_succ]
                    refine wpAnyS_done (by kernel_rfl) ?_ _
                    clear hHeld hInv
                    have hD5 := hA5
                    have hC6 : C5 W5 B8 1 2 0 0 (b0 : Nat) := hC5
                    have hst : C5 ((W5.setCell ⟨B8, 4, none⟩ (.int .u64 (b : Nat))).drew) B8 1 2 0 0 (b : Nat) := by
                      obtain ⟨y0, y1, y2, y3, y4⟩ := hC6
                      refine ⟨?_, ?_, ?_, ?_, ?_⟩ <;> simp [go_sem, *]
                    have hBs : Below B8 wr ((W5.setCell ⟨B8, 4, none⟩ (.int .u64 (b : Nat))).drew) := by
                      rw [← hB8]; exact (hD5.setCell (by simp [hB8]) _).drew
                    have hBt : Below w.heap.size w ((W5.setCell ⟨B8, 4, none⟩ (.int .u64 (b : Nat))).drew) := hB.trans (hBs.mono hwB)
                    have hown5 : OwnU ((W5.setCell ⟨B8, 4, none⟩ (.int .u64 (b : Nat))).drew) w.heap.size (.slice Ar m cr) J := hown.keepG hBs hrow8.out
                    have hlw5 := hwh.out.keep hBt
                    have hB5 := hBt
                    clear hBt hBs hD5 hC6 hC5 hA5 xf x0 x1 x2 x3 x4 hW5
                    have hC5 := hst
                    clear hst
                    obtain ⟨x0, x1, x2, x3, x4⟩ := id hC5
                    generalize (W5.setCell ⟨B8, 4, none⟩ (.int .u64 (b : Nat))).drew = W9 at *
                    go_wp2_with fail
                    refine (hE.out _ hlw5).mono ?_
                    rintro e w6 ⟨rfl, hb6⟩
                    have hown6 := hown5.keep hb6
                    have hB6 := hB5.trans (hb6.mono hB5.size)
                    have hC6 := hC5.keep hb6
                    clear hown5 hC5 hB5 hlw5 hb6 hE hown hB
                    obtain ⟨v', w7, hrun, ho7, hB7, hg7, hv7⟩ := appU1 (y := y) hown6 hB6.size (by rw [hml.out]; omega) (27 : Nat)
                    have hBN := hB6.trans hB7
                    have hC7 := (hC6.keep ((Below.refl w6.heap.size w6).alloc (Nat.le_refl _) (.cells #[.int .u64 (y : Nat)] (27 : Nat)))).grown hg7 (fun e => by have := hrow8.out B8 e; omega)
                    obtain ⟨q0, q1, q2, q3, q4⟩ := hC6
                    obtain ⟨z0, z1, z2, z3, z4⟩ := id hC7
                    have hJ1 : Hid (J.length + 1 = (J ++ [y]).length) := Lib.hid (by simp)
                    obtain ⟨A7, c7, rfl⟩ := ho7.sl (m := m + 1) (by rw [← hJ1.out, hml.out])
                    clear hg7 hv7 hown6 hB6 hB7
                    have hJn : Hid (rightT (J ++ [y]) = true) := Lib.hid (hAp.out _ _ hJ.out (hOne.out y hyo.out (by have := hyk.out; omega) (by have := hyk.out; omega)))
                    have hJl : (J ++ [y]).length ≤ M := by rw [← hJ1.out, hml.out]; omega
                    clear hC7
                    go_wp2_with (at_builtin; refine wpList_append_run rfl _ _ 22 rfl _ _ _ rfl rfl hrun ?_)
                    go_loopw [11, 5] (fun i v9 wq => i = .int .i64 1 ∧ v9 = .slice A7 (m + 1) c7 ∧ wq = w7) (fun _ _ _ => 0)
                    case atStart => exact ⟨rfl, rfl, rfl⟩
                    case round =>
                      obtain ⟨rfl, rfl, rfl⟩ := hrel
                      go_wp2_with fail
                      go_roundw
                      case rel => exact ⟨j + 1, _, by omega, by go_num, hJn, hJl, ho7, hBN⟩
                      case measure => first | (simp [intOf]; done) | (simp [intOf]; omega)
      · have hfull' : ¬ (m : Int) < (M : Int) := by omega
        have hf2 : decide ((m : Int) < (M : Int)) = false := decide_eq_false hfull'
        go_wp2_with fail
        go_ret
        first | exact ⟨_, rfl, J, hown, hJ.out, by omega, hB⟩ | exact ⟨_, J, rfl, hown, hJ.out, by omega, hB⟩
    · obtain rfl : j = n := by omega
      go_wp2_with fail
      go_ret
      first | exact ⟨_, rfl, J, hown, hJ.out, by omega, hB⟩ | exact ⟨_, J, rfl, hown, hJ.out, by omega, hB⟩
end Go.Proofs.YtnjifmecaeagaaaDoor
end
section
set_option linter.unusedVariables false
set_option linter.unusedSimpArgs false
namespace Go.Proofs.YtnjifmecaeagaaaDoor
open Go.RowKit Go.ChangeShapes Go.WideShapes Go.Deep
theorem run_slice_from {P : Program} {ty e : TypeId} {i0 : TypeInfo} {sz : Nat} (hu : P.underlying ty = some (.slice e)) (hi : P.info? e = some i0) (hs : i0.size = sz) (A : Option Addr) (n cap t : Nat) (h : t ≤ n) (w : World) :
    (Instr.slice ty (.slice A n cap) (some (.int .i64 (t : Int))) none none).run P w = .ok (.slice (if cap = t then A else A.map (·.add (t * sz))) (n - t) (cap - t)) w := by
  subst hs
  have h1 : (t : Int) ≤ (n : Int) := by omega
  have h2 : (0 : Int) ≤ (t : Int) := by omega
  simp [Instr.slice, run_underlying hu, Instr.sliceBounds, Instr.sliceBound, asIntOf, sizeOf, typeInfo, hi, h2, h1, go_sem]
  exact fun h' => by omega
theorem wp_append_run {P : Program} {w w' : World} {o : Oper} {a : Act} {K : Act → World → Prop} {Q : Exit → Act → World → Prop} (s x : Operand) (t u : TypeId)
    (hop : o.op = Op.call { callee := Callee.builtin Builtin.append, args := #[s, x], argTypes := #[t, u] }) (vs vx v : Value) (hs : a.eval s = vs) (hx : a.eval x = vx)
    (hrun : (Builtin.append_ #[t, u] o.type #[vs, vx]).run P w = .ok v w') (h : K (a.put o.dst v) w') : Oper.wp P o a w K Q := by
  unfold Oper.wp
  simp [execOp, hop, resolve, invoke, builtin, hs, hx, hrun, Result.andThen]
  exact h
theorem wpList_append_yes {P : Program} {w w' : World} {ops : Array Oper} {rest : List Oper} {o : Oper} {a : Act} {Q : Exit → Act → World → Prop} (hw : Region.wanted o (yielded ops a.tmps) = true) (s x : Operand) (t : TypeId)
    (hop : o.op = Op.call { callee := Callee.builtin Builtin.append, args := #[s, x], argTypes := #[t, t] }) (vs vx v : Value) (hs : a.eval s = vs) (hx : a.eval x = vx)
    (hrun : (Builtin.append_ #[t, t] o.type #[vs, vx]).run P w = .ok v w') (h : wpList P ops Q rest (a.put o.dst v) w') : wpList P ops Q (o :: rest) a w :=
  wpList_step fun K hK => by
    rw [if_pos hw]
    exact wp_append_run s x t t hop vs vx v hs hx hrun (hK _ _ h)
theorem OwnE.cap {α : Type} {e : TypeId} {sz : Nat} {en : α → List Value} {w : World} {base n cap : Nat} {A : Option Addr} {l : List α} (h : OwnE e sz en w base (.slice A n cap) l) : n ≤ cap := by
  rcases h.2 with ⟨hv, hn⟩ | ⟨g, cap', cur, hv, hb, hg, h1, _⟩
  · simp only [Value.slice.injEq] at hv; omega
  · simp only [Value.slice.injEq] at hv; omega
theorem OwnE.sl {α : Type} {e : TypeId} {sz : Nat} {en : α → List Value} {w : World} {base n : Nat} {v : Value} {l : List α} (h : OwnE e sz en w base v l) (hn : l.length = n) : ∃ A c, v = .slice A n c := by
  rcases h.2 with ⟨h1, h2⟩ | ⟨g', cap', cur, h1, _⟩
  · exact ⟨none, 0, by rw [h1, ← hn, h2]⟩
  · exact ⟨_, _, by rw [h1, hn]⟩
theorem EL.take {α : Type} [Inhabited α] {sz : Nat} {en : α → List Value} {w : World} {A : Option Addr} {n cap : Nat} {l : List α} (h : EL sz en w (.slice A n cap) l) (t : Nat) (ht : t ≤ l.length) : EL sz en w (.slice A t cap) (l.take t) := by
  obtain ⟨A', cap', hv, h⟩ := h
  cases hv
  refine ⟨A, cap, by rw [List.length_take, Nat.min_eq_left ht], fun hl => ?_⟩
  rw [List.length_take, Nat.min_eq_left ht] at hl
  obtain ⟨g, off, hA, hg, hc, hi⟩ := h (by omega)
  refine ⟨g, off, hA, hg, by rw [List.length_take]; omega, fun i h j hj => ?_⟩
  rw [List.length_take] at h
  rw [hi i (by omega) j hj, List.getD_eq_getElem?_getD, List.getD_eq_getElem?_getD, List.getElem?_take_of_lt (by omega)]
theorem EL.drop {α : Type} [Inhabited α] {sz : Nat} {en : α → List Value} {w : World} {A : Option Addr} {n cap : Nat} {l : List α} (h : EL sz en w (.slice A n cap) l) (t : Nat) (ht : t ≤ n) : EL sz en w (.slice (if cap = t then A else A.map (·.add (t * sz))) (n - t) (cap - t)) (l.drop t) := by
  obtain ⟨A', cap', hv, h⟩ := h
  simp only [Value.slice.injEq] at hv
  obtain ⟨rfl, rfl, rfl⟩ := hv
  refine ⟨_, _, by rw [List.length_drop], fun hl => ?_⟩
  rw [List.length_drop] at hl
  obtain ⟨g, off, rfl, hg, hc, hi⟩ := h (by omega)
  refine ⟨g, off + t * sz, ?_, hg, by rw [List.length_drop]; omega, fun i h j hj => ?_⟩
  · rw [if_neg (by omega), Option.map_some, add_plain]
  · rw [List.length_drop] at h
    rw [show off + t * sz + i * sz + j = off + (t + i) * sz + j by rw [Nat.add_mul]; omega, hi (t + i) (by omega) j hj, List.getD_eq_getElem?_getD, List.getD_eq_getElem?_getD, List.getElem?_drop]
def shB (d : Nat) (b : Bl) : Bl := (b.1 + d, b.2)
def shK (d k : Nat) (l : List Bl) : List Bl := (l.take k).map (shB d) ++ l.drop k
theorem shK_zero (d : Nat) (l : List Bl) : shK d 0 l = l := by simp [shK]
theorem shK_len (d k : Nat) (l : List Bl) : (shK d k l).length = l.length := by
  unfold shK; rw [List.length_append, List.length_map, List.length_take, List.length_drop]; omega
theorem shK_all (d : Nat) {l : List Bl} {n : Nat} (h : l.length = n) : shK d n l = l.map (fun b => (b.1 + d, b.2)) := by
  unfold shK
  rw [List.take_of_length_le (by omega), List.drop_of_length_le (by omega), List.append_nil]
  rfl
theorem shK_at (d : Nat) {k : Nat} {l : List Bl} (h : k < l.length) : (shK d k l).getD k default = l.getD k default := by
  unfold shK
  rw [List.getD_eq_getElem?_getD, List.getElem?_append_right (by rw [List.length_map, List.length_take]; omega), List.length_map, List.length_take, Nat.min_eq_left (by omega), Nat.sub_self, List.getElem?_drop, List.getD_eq_getElem?_getD]
  rfl
theorem shK_succ (d : Nat) {k : Nat} {l : List Bl} (h : k < l.length) : shK d (k + 1) l = (shK d k l).set k (shB d (l.getD k default)) := by
  unfold shK
  rw [List.take_succ_eq_append_getElem h, List.map_append, List.drop_eq_getElem_cons h, List.set_append_right _ _ (by rw [List.length_map, List.length_take]; omega), List.length_map, List.length_take, Nat.min_eq_left (by omega), Nat.sub_self, List.set_cons_zero, List.append_assoc, List.getD_eq_getElem?_getD, List.getElem?_eq_getElem h]
  rfl
theorem blksT_len (t : List Nat) : (blksT t).length ≤ 8 * t.length := by
  unfold blksT
  split
  · exact blksFrom_len 0 t
  · simp
theorem blksT_ch (t : List Nat) (b : Bl) (h : b ∈ blksT t) : b.1 < t.length := by
  unfold blksT at h
  split at h
  · have := blksFrom_in 0 t b h; omega
  · simp at h

set_option maxRecDepth 10000 in
set_option maxHeartbeats 2000000 in
theorem tileParts (v u : Value) (l m : List Nat) (w : World) (hw : Lw w) (hH : HL l) (hG : HL m) (hv : KL .u16 w v l) (hu : KL .u16 w u m) :
    Calls Tryd.prog 8 #[v, u] w fun e w' => e = .returned (.bool true) ∧ Below w.heap.size w w' := by
  have hAw := awake11 w hw
  obtain ⟨n, hn⟩ : ∃ n, l.length = n := ⟨_, rfl⟩
  obtain ⟨n2, hn2⟩ : ∃ n, m.length = n := ⟨_, rfl⟩
  obtain ⟨A, cap, rfl, _⟩ := hv.form hn
  obtain ⟨A2, cap2, rfl, _⟩ := hu.form hn2
  by_cases h60 : 60 < n
  · have h60' : (60 : Int) < (n : Int) := by omega
    clear hv hu hw
    replace hn := Lib.hid hn
    replace hn2 := Lib.hid hn2
    go_enter Tryd.func8, Tryd.ntmps8
    go_wp2_with fail
    refine hAw.mono ?_
    rintro e w1 ⟨rfl, hb1⟩
    go_wp2_with fail
    go_ret
    exact ⟨rfl, hb1⟩
  have h60' : ¬ (60 : Int) < (n : Int) := by omega
  have h60'' : decide ((60 : Int) < (n : Int)) = false := decide_eq_false h60'
  by_cases g60 : 60 < n2
  · have g60' : (60 : Int) < (n2 : Int) := by omega
    clear hv hu hw
    replace hn := Lib.hid hn
    replace hn2 := Lib.hid hn2
    go_enter Tryd.func8, Tryd.ntmps8
    go_wp2_with fail
    refine hAw.mono ?_
    rintro e w1 ⟨rfl, hb1⟩
    go_wp2_with fail
    go_ret
    exact ⟨rfl, hb1⟩
  have g60' : ¬ (60 : Int) < (n2 : Int) := by omega
  have g60'' : decide ((60 : Int) < (n2 : Int)) = false := decide_eq_false g60'
  have hM1 := Lib.hid (fun w1 (hb : Below w.heap.size w w1) => made_any _ l 30 w1 (hw.keep hb) hH (hv.keep hb) (by omega) (by omega))
  have hM2 := Lib.hid (fun w1 (hb : Below w.heap.size w w1) => made_any _ m 30 w1 (hw.keep hb) hG (hu.keep hb) (by omega) (by omega))
  have hwh := Lib.hid hw
  replace hn := Lib.hid hn
  replace hn2 := Lib.hid hn2
  clear hv hu hw hH hG h60 g60
  go_enter Tryd.func8, Tryd.ntmps8
  go_wp2_with fail
  refine hAw.mono ?_
  rintro e w1 ⟨rfl, hb1⟩
  have hMa := hM1.out _ hb1
  clear hAw hM1
  go_wp2_with fail
  refine hMa.mono ?_
  rintro e w2 ⟨v2, t, rfl, ho2, hrt, htl, hb2⟩
  have hB2 := hb1.trans (hb2.mono hb1.size)
  have hk2 := ho2.kl
  obtain ⟨nt, hnt⟩ : ∃ k, t.length = k := ⟨_, rfl⟩
  obtain ⟨At, ct, rfl⟩ := ho2.sl hnt
  have hMb := hM2.out _ hB2
  clear ho2 hMa hM2 hb1 hb2
  go_wp2_with fail
  refine hMb.mono ?_
  rintro e w3 ⟨v3, uu, rfl, ho3, hru, hul, hb3⟩
  have hB3 := hB2.trans (hb3.mono hB2.size)
  replace hk2 := hk2.keep hb3
  have hk3 := ho3.kl
  obtain ⟨nu, hnu⟩ : ∃ k, uu.length = k := ⟨_, rfl⟩
  obtain ⟨Au, cu, rfl⟩ := ho3.sl hnu
  have hBa := blocksT_any _ t w3 (hwh.out.keep hB3) hk2 (rightT_WL hrt) (by omega)
  clear ho3 hMb hB2 hb3
  go_wp2_with fail
  refine hBa.mono ?_
  rintro e w4 ⟨v4, rfl, ho4, hb4⟩
  have hB4 := hB3.trans (hb4.mono hB3.size)
  replace hk2 := hk2.keep hb4
  replace hk3 := hk3.keep hb4
  have hk4 := ho4.el eB_len
  obtain ⟨la, hla⟩ : ∃ k, (blksT t).length = k := ⟨_, rfl⟩
  obtain ⟨Aa, ca, rfl⟩ := ho4.sl hla
  have hBb := blocksT_any _ uu w4 (hwh.out.keep hB4) hk3 (rightT_WL hru) (by omega)
  clear ho4 hBa hB3 hb4
  go_wp2_with fail
  refine hBb.mono ?_
  rintro e w5 ⟨v5, rfl, ho5, hb5⟩
  have hB5 := hB4.trans (hb5.mono hB4.size)
  have hS45 := hb5.size
  have hS04 := hB4.size
  replace hk2 := hk2.keep hb5
  replace hk3 := hk3.keep hb5
  obtain ⟨lb, hlb⟩ : ∃ k, (blksT uu).length = k := ⟨_, rfl⟩
  obtain ⟨Ab, cb, rfl⟩ := ho5.sl hlb
  obtain ⟨v6, w6, v7, w7, r1, r2, hk7, hb7⟩ := joinW hk2 hk3 (by omega) (by omega)
  have hB7 := hB5.trans (hb7.mono hB5.size)
  have hb47 := hb5.trans (hb7.mono hS45)
  have ho7 := ho5.keep hb7
  replace hk2 := hk2.keep hb7
  replace hk3 := hk3.keep hb7
  have hrtu := rightT_app hrt hru
  have hBc := blocksT_any _ (t ++ uu) w7 (hwh.out.keep hB7) hk7 (rightT_WL hrtu) (by rw [List.length_append]; omega)
  have hbap := blksT_app (rightT_t hrt).1 (rightT_t hru).1
  rw [hnt] at hbap
  obtain ⟨lc, hlc⟩ : ∃ k, la + lb = k := ⟨_, rfl⟩
  have hlcl : (blksT (t ++ uu)).length = lc := by rw [hbap, List.length_append, List.length_map]; omega
  clear hBb hB5 hB4 hb5 hb7 ho5
  go_wp2_with (first
  | (at_builtin; refine wpList_append_run rfl _ _ 22 rfl _ _ _ rfl rfl r1 ?_; clear r1)
  | (at_builtin; refine wpList_append_run rfl _ _ 22 rfl _ _ _ rfl rfl r2 ?_; clear r2))
  refine hBc.mono ?_
  rintro e w8 ⟨v8, rfl, ho8, hb8⟩
  obtain ⟨Ac, cc, rfl⟩ := ho8.sl hlcl
  have hB8 := hB7.trans (hb8.mono hB7.size)
  have hb48 := hb47.trans (hb8.mono hb47.size)
  have ho7' := ho7.keep hb8
  have hAbl : Hid (∀ b, Value.ownBlock (.slice Ab lb cb) = some b → b < w7.heap.size) := Lib.hid (fun b q => (ho7.lt b q).2)
  have hS78 := hb8.size
  replace hk2 := hk2.keep hb8
  replace hk3 := hk3.keep hb8
  obtain ⟨v9, w9, v10, w10, r3, r4, hk10, hb10⟩ := joinW hk2 hk3 (by omega) (by omega)
  have hRr := right_any2 _ (t ++ uu) w10 (hwh.out.keep (hB8.trans (hb10.mono hB8.size))) hk10 (rightT_WL hrtu) (by rw [List.length_append]; omega)
  rw [hrtu] at hRr
  have hB10 := hB8.trans (hb10.mono hB8.size)
  have hb410 := hb48.trans (hb10.mono hb48.size)
  have hobA := ho7'.keep hb10
  have hocA := ho8.keep hb10
  have f1 : IntKind.i64.wrap ((la : Int) + (lb : Int)) = (lc : Int) := by
    have := blksT_len t; have := blksT_len uu; rw [IntKind.wrap_i64]; omega
  have f2 : (la : Int) + (lb : Int) = (lc : Int) := by omega
  have hla9 : la ≤ 240 := by have := blksT_len t; omega
  have hlb9 : lb ≤ 240 := by have := blksT_len uu; omega
  have hbch := Lib.hid (fun k (hk : k < lb) => show ((blksT uu).getD k default).1 < 30 from by
    have hm : (blksT uu).getD k default ∈ blksT uu := by rw [List.getD_eq_getElem?_getD, List.getElem?_eq_getElem (by omega)]; exact List.getElem_mem _
    have := blksT_ch uu _ hm; omega)
  have hla2 : la ≤ lc := by omega
  have hlcb : lc - la = lb := by omega
  have hSA := Lib.hid (fun w (h1 : BKL w (.slice Ac la cc) (blksT t)) (h2 : BKL w (.slice Aa la ca) (blksT t)) => sameBl _ _ _ _ w (by omega) h1 h2)
  rw [decide_eq_true (show blksT t = blksT t from rfl)] at hSA
  have hZ0 := shK_zero nt (blksT uu)
  have hZn := Lib.hid (shK_all nt hlb)
  have hZa := Lib.hid (fun k (hk : k < lb) => shK_at nt (l := blksT uu) (k := k) (by omega))
  have hZs := Lib.hid (fun k (hk : k < lb) => shK_succ nt (l := blksT uu) (k := k) (by omega))
  have hZl := Lib.hid (fun k => (shK_len nt k (blksT uu)).trans hlb)
  have hba2 := Lib.hid hbap
  have hlc2 := Lib.hid hlcl
  have hla3 := Lib.hid hla
  have hlb3 := Lib.hid hlb
  have hnt3 := Lib.hid hnt
  have hnu3 := Lib.hid hnu
  have hnt9 : nt ≤ 30 := by omega
  clear hBc hB7 hB8 hb47 hb48 hb8 ho7 ho7' ho8 hk2 hk3 hk7 hb10 hbap hlcl hla hlb hlc hnt hnu hrtu hrt hru htl hul
  go_wp2_with (first
  | (at_builtin; refine wpList_append_yes (by rfl) _ _ 22 rfl _ _ _ rfl rfl r3 ?_; clear r3)
  | (at_builtin; refine wpList_append_yes (by rfl) _ _ 22 rfl _ _ _ rfl rfl r4 ?_; clear r4))
  refine hRr.mono ?_
  rintro e w11 ⟨rfl, hb11⟩
  have hB11 := hB10.trans (hb11.mono hB10.size)
  have hb411 := hb410.trans (hb11.mono hb410.size)
  have hob := hobA.keep hb11
  have hoc := hocA.keep hb11
  clear hRr hb11 hB10 hb410 hobA hocA
  rw [← hZ0] at hob
  go_wp2_with fail
  go_loopw [11] (fun i wr => ∃ k : Nat, k ≤ lb ∧ i = .int .i64 k ∧ BKO wr w4.heap.size (.slice Ab lb cb) (shK nt k (blksT uu)) ∧ BKO wr w7.heap.size (.slice Ac lc cc) (blksT (t ++ uu)) ∧ Below w4.heap.size w4 wr ∧ Below w.heap.size w wr) (fun i _ => lb + 1 - (intOf i).toNat)
  case atStart => exact ⟨0, Nat.zero_le _, rfl, hob, hoc, hb411, hB11⟩
  case round =>
    clear hob hoc hb411 hB11 hZ0
    obtain ⟨k, hk, rfl, hob, hoc, hb4, hB⟩ := hrel
    by_cases hlt : k < lb
    · have hlt' : (k : Int) < (lb : Int) := by omega
      obtain ⟨gB, cB, hv, hg1, hg2, hg3⟩ := hob.form (by rw [hZl.out]; omega)
      simp only [Value.slice.injEq] at hv
      obtain ⟨rfl, -, rfl⟩ := hv
      have r0 := OwnE.cell eB_len hob (hZl.out k) (i := k) (j := 0) hlt (by omega)
      rw [hZa.out k hlt] at r0
      have hch := hbch.out k hlt
      have hset := OwnE.set (x' := shB nt ((blksT uu).getD k default)) (u := .int .i64 ((((blksT uu).getD k default).1 + nt : Nat) : Int)) eB_len hob (hZl.out k) (i := k) (j := 0) hlt (by omega) (by rw [hZa.out k hlt]; rfl)
      rw [← hZs.out k hlt] at hset
      have hgl := hAbl.out gB rfl
      have hfar := OwnE.far (g := gB) (o := k * 3 + 0) hoc hgl (.int .i64 ((((blksT uu).getD k default).1 + nt : Nat) : Int))
      have hb4s := hb4.setCell (p := ⟨gB, k * 3 + 0, none⟩) hg1 (.int .i64 ((((blksT uu).getD k default).1 + nt : Nat) : Int))
      have hBs := hB.setCell (p := ⟨gB, k * 3 + 0, none⟩) (show w.heap.size ≤ gB by omega) (.int .i64 ((((blksT uu).getD k default).1 + nt : Nat) : Int))
      generalize (blksT uu).getD k default = y at *
      obtain ⟨a, b, c⟩ := y
      obtain ⟨r0, z0⟩ := r0
      simp only [eB, Nat.add_zero, List.getElem?_cons_zero] at r0 z0 hset hfar hb4s hBs
      have g1 : IntKind.i64.wrap ((a : Int) + (nt : Int)) = (a : Int) + (nt : Int) := by rw [IntKind.wrap_i64]; omega
      have g2 : (((a + nt : Nat)) : Int) = (a : Int) + (nt : Int) := by omega
      rw [g2] at hset hfar hb4s hBs
      clear g2 hob hoc hb4 hB hg3
      go_wp2_with fail
      go_roundw
      case rel => exact ⟨k + 1, by omega, by go_num, hset, hfar, hb4s, hBs⟩
      case measure => first | (simp [intOf]; done) | (simp [intOf]; omega)
    · obtain rfl : k = lb := by omega
      rw [hZn.out] at hob
      have hkc := hoc.el eB_len
      have hkb := hob.el eB_len
      have hcc := hoc.cap
      have hka := hk4.keep hb4
      have hc1 := EL.take hkc la (by rw [hlc2.out]; exact hla2)
      have hc2 := EL.drop hkc la hla2
      have t1 : (blksT (t ++ uu)).take la = blksT t := by rw [hba2.out, List.take_append_of_le_length (by rw [hla3.out]; exact Nat.le_refl _), List.take_of_length_le (by rw [hla3.out]; exact Nat.le_refl _)]
      have t2 : (blksT (t ++ uu)).drop la = (blksT uu).map (fun b => (b.1 + nt, b.2)) := by rw [hba2.out, List.drop_append_of_le_length (by rw [hla3.out]; exact Nat.le_refl _), List.drop_of_length_le (by rw [hla3.out]; exact Nat.le_refl _), List.nil_append]
      rw [t1] at hc1
      rw [t2] at hc2
      have hS1 := hSA.out _ hc1 hka
      obtain ⟨i0, hi, hz0, hz1, hz2⟩ := info_parts infoB
      have q1 := fun w => run_slice_to (P := Tryd.prog) (ty := 34) Tryd.underlying34 hi Ac lc cc la (by omega) w
      have q2 := fun w => run_slice_from (P := Tryd.prog) (ty := 34) Tryd.underlying34 hi hz1 Ac lc cc la hla2 w
      rw [hlcb] at q2 hc2
      generalize (if cc = la then Ac else Ac.map (fun x => x.add (la * 3))) = Ad at *
      generalize cc - la = cd at *
      generalize (blksT uu).map (fun b => (b.1 + nt, b.2)) = bm at *
      have hml2 : Hid (bm.length ≤ 1000000) := Lib.hid (by obtain ⟨_, _, hv, _⟩ := hkb; simp only [Value.slice.injEq] at hv; omega)
      clear hob hoc hkc hka hc1 hb4 hi hz0 hz1 hz2 t1 t2 hSA hlcb hlc2 hla3 hba2 hZn
      go_wp2_with fail
      refine hS1.mono ?_
      rintro e w12 ⟨rfl, hb12⟩
      have hB12 := hB.trans (hb12.mono hB.size)
      have hS2 := sameBl _ _ _ _ w12 hml2.out (hc2.keep hb12) (hkb.keep hb12)
      rw [decide_eq_true (show bm = bm from rfl)] at hS2
      clear hS1 q1 hc2 hkb hb12
      go_wp2_with fail
      refine hS2.mono ?_
      rintro e w13 ⟨rfl, hb13⟩
      go_wp2_with fail
      go_ret
      exact ⟨rfl, hB12.trans (hb13.mono hB12.size)⟩
end Go.Proofs.YtnjifmecaeagaaaDoor
end
