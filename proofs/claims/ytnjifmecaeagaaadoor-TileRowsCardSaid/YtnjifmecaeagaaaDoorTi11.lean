/-
  The laws of package tile: TileRows.
-/
import Derived.Test.YtnjifmecaeagaaaDoorTi10
set_option linter.unusedVariables false
set_option linter.unusedSimpArgs false
namespace Go.Proofs.YtnjifmecaeagaaaDoor
open Go.RowKit Go.ChangeShapes Go.WideShapes Go.Deep

/-- a chunk that can't be had, as its cells tell it -/
theorem may_f {x : Nat} (h : mayN x = false) : ¬ ((kN x : Nat) : Int) = 0 ∧ ¬ (((kN x : Nat) : Int) = 1 ∧ ((bN x : Nat) : Int) = 0) := by
  unfold mayN at h
  simp only [Bool.or_eq_false_iff, decide_eq_false_iff_not] at h
  omega
theorem may_t {x : Nat} (h : mayN x = true) : ((kN x : Nat) : Int) = 0 ∨ (((kN x : Nat) : Int) = 1 ∧ ((bN x : Nat) : Int) = 0) := by
  unfold mayN at h
  simp only [Bool.or_eq_true, decide_eq_true_eq] at h
  omega

set_option maxRecDepth 10000 in
set_option maxHeartbeats 2000000 in
theorem tileRows (v : Value) (l : List Nat) (w : World) (hw : Lw w) (hH : HL l) (hv : KL .u16 w v l) :
    Calls Tryd.prog 6 #[v] w fun e w' => e = .returned (.bool true) ∧ Below w.heap.size w w' := by
  have hAw := awake11 w hw
  obtain ⟨nn, hnn⟩ : ∃ n, l.length = n := ⟨_, rfl⟩
  obtain ⟨A, cap, rfl, _⟩ := hv.form hnn
  by_cases h60 : 60 < nn
  · have h60' : (60 : Int) < (nn : Int) := by omega
    clear hv hw
    replace hnn := Lib.hid hnn
    go_enter Tryd.func6, Tryd.ntmps6
    go_wp2_with fail
    refine hAw.mono ?_
    rintro e w1 ⟨rfl, hb1⟩
    go_wp2_with fail
    go_ret
    exact ⟨rfl, hb1⟩
  have h60' : ¬ (60 : Int) < (nn : Int) := by omega
  have h60'' : decide ((60 : Int) < (nn : Int)) = false := decide_eq_false h60'
  have hM1 := Lib.hid (fun w1 (hb : Below w.heap.size w w1) => made_any _ l 40 w1 (hw.keep hb) hH (hv.keep hb) (by omega) (by omega))
  have hwh := Lib.hid hw
  have hEm := Lib.hid (fun (x : Nat) w => empty_any (kN x : Nat) (cN x : Nat) (lnN x : Nat) (mN x : Nat) (bN x : Nat) w)
  replace hnn := Lib.hid hnn
  clear hv hw hH h60
  go_enter Tryd.func6, Tryd.ntmps6
  go_wp2_with fail
  refine hAw.mono ?_
  rintro e w1 ⟨rfl, hb1⟩
  have hMa := hM1.out _ hb1
  clear hAw hM1
  go_wp2_with fail
  refine hMa.mono ?_
  rintro e w2 ⟨v2, t, rfl, ho2, hrt, htl, hb2⟩
  have hB2 := hb1.trans (hb2.mono hb1.size)
  have hk2 := ho2.kl
  obtain ⟨n, hn⟩ : ∃ k, t.length = k := ⟨_, rfl⟩
  obtain ⟨At, ct, rfl⟩ := ho2.sl hn
  have hok := (rightT_t hrt).1
  have hCh := chunks_any _ t w2 (hwh.out.keep hB2) hk2 (rightT_WL hrt) (by omega)
  clear ho2 hMa hb1 hb2
  go_wp2_with fail
  refine hCh.mono ?_
  rintro e w3 ⟨hP, hb3⟩
  rcases hP with ⟨_, v3, rfl, ho3⟩ | ⟨hno, _⟩
  rotate_left
  · rw [hok] at hno; cases hno
  have hB3 := hB2.trans (hb3.mono hB2.size)
  replace hk2 := hk2.keep hb3
  have hk3 : CKL w3 v3 t := ho3.el eC_len
  obtain ⟨A3, c3, rfl, hC⟩ := CKL.form hk3 hn
  have hRw := rowsT_any _ t w3 (hwh.out.keep hB3) hk2 (rightT_WL hrt) (by omega)
  have hRe : rowsT t = rowsL (fT t) n := by unfold rowsT; rw [if_pos hok, hn]; rfl
  rw [hRe] at hRw
  have hRk := rows_ok (fT t) n
  have hRl := rowsL_len (fT t) n
  have hf0 := Lib.hid (fun k => show fT t k = mayN (t.getD k 0) from rfl)
  generalize rowsL (fT t) n = R at *
  generalize fT t = f at *
  obtain ⟨L, hL⟩ : ∃ k, R.length = k := ⟨_, rfl⟩
  rw [hL] at hRl
  have hEach := Lib.hid (fun k (hk : k < L) => hRk.each k (by omega))
  have hSort := Lib.hid (fun k (hk : k + 1 < L) => hRk.sort k (by omega))
  have hn40 : n ≤ 40 := by omega
  replace hC := Lib.hid hC
  replace hn := Lib.hid hn
  clear hCh hB2 hb3 ho3 hk2 hk3 hok hRe hRk htl hrt
  go_wp2_with fail
  refine hRw.mono ?_
  rintro e w4 ⟨v4, rfl, ho4, hb4⟩
  have hB4 := hB3.trans (hb4.mono hB3.size)
  have hk4 : PKL w4 v4 R := ho4.el eP_len
  obtain ⟨A4, c4, rfl, hD⟩ := PKL.form hk4 hL
  have hs34 := hb4.size
  replace hD := Lib.hid hD
  replace hL := Lib.hid hL
  clear hRw ho4 hk4
  go_wp2_with fail
  go_loopw [35, 7] (fun i lv wr => ∃ (k : Nat) (la : Int), k ≤ L ∧ i = .int .i64 k ∧ lv = .int .i64 la ∧ Hid (k < L → la + 1 < ((R.getD k default).1 : Nat)) ∧ -2 ≤ la ∧ la ≤ 1000 ∧ Below w4.heap.size w4 wr) (fun i _ _ => L + 1 - (intOf i).toNat)
  case atStart => exact ⟨0, -2, Nat.zero_le _, rfl, rfl, Lib.hid (fun _ => by omega), by omega, by omega, Below.refl _ _⟩
  case round =>
    obtain ⟨k, la, hk, rfl, rfl, hla, hl1, hl2, hB⟩ := hrel
    have hbwr := hb4.trans (hB.mono hs34)
    by_cases hlt : k < L
    · obtain ⟨g4, off4, rfl, hcap4, _, hg4, d0, d1⟩ := hD.out wr k hB hlt
      have hlt' : (k : Int) < (L : Int) := by omega
      have hRO := hEach.out k hlt
      have hlaw := hla.out hlt
      have hsrt := Lib.hid (fun (h : k + 1 < L) => hSort.out k h)
      generalize hs : R.getD k default = s at *
      replace hs := Lib.hid hs
      obtain ⟨a, m⟩ := s
      obtain ⟨o1, o2, o3, o4, o5⟩ := hRO
      simp only [] at d0 d1 o1 o2 o3 o4 o5 hlaw hsrt
      obtain ⟨B9, hB9⟩ : ∃ B9, wr.heap.size = B9 := ⟨_, rfl⟩
      have hP := eP_new wr a m 46
      have hA5 : Below wr.heap.size wr (wr.alloc (.cells #[.int .i64 (a : Nat), .int .i64 (m : Nat)] 46)) := (Below.refl _ _).alloc (Nat.le_refl _) _
      have x0 : (wr.alloc (.cells #[.int .i64 (a : Nat), .int .i64 (m : Nat)] 46)).cell? ⟨wr.heap.size, 0, none⟩ = some (.int .i64 (a : Nat)) := by simp [go_sem]
      have x1 : (wr.alloc (.cells #[.int .i64 (a : Nat), .int .i64 (m : Nat)] 46)).cell? ⟨wr.heap.size, 1, none⟩ = some (.int .i64 (m : Nat)) := by simp [go_sem]
      rw [hB9] at x0 x1
      have hbW5 := hbwr.trans (hA5.mono hbwr.size)
      have hB5 := hB.trans (hA5.mono hB.size)
      have t1 : ¬ (m : Int) < 1 := by omega
      have t1' : decide ((m : Int) < 1) = false := decide_eq_false t1
      have t2 : ¬ (a : Int) ≤ la + 1 := by omega
      have t2' : decide ((a : Int) ≤ la + 1) = false := decide_eq_false t2
      have t3 : IntKind.i64.wrap (la + 1) = la + 1 := by rw [IntKind.wrap_i64]; omega
      obtain ⟨e, he⟩ : ∃ e, a + m = e := ⟨_, rfl⟩
      rw [he] at o2 o5 hsrt
      have t4 : IntKind.i64.wrap ((a : Int) + (m : Int)) = (e : Int) := by rw [IntKind.wrap_i64]; omega
      have t5 : (a : Int) + (m : Int) = (e : Int) := by omega
      have t6 : ¬ (n : Int) < (e : Int) := by omega
      have t6' : decide ((n : Int) < (e : Int)) = false := decide_eq_false t6
      have t7 : ¬ (a : Int) < 0 := by omega
      have hend : IntKind.i64.wrap ((e : Int) - 1) = (e : Int) - 1 := by rw [IntKind.wrap_i64]; omega
      have hnext : Hid (k + 1 < L → ((e : Int) - 1) + 1 < ((R.getD (k + 1) default).1 : Nat)) := Lib.hid (fun h => by have := hsrt.out h; omega)
      replace o3 := Lib.hid o3
      have o1' : 1 ≤ m := o1
      have hem : Hid (a + m = e) := Lib.hid he
      have het : IntKind.i64.wrap (e : Int) = (e : Int) := by rw [IntKind.wrap_i64]; omega
      clear hP hA5 hla hlaw hsrt o1 he
      by_cases ha : 0 < a
      · by_cases hen : e < n
        · skip
          obtain ⟨p, hp⟩ : ∃ p, a - 1 = p := ⟨_, rfl⟩
          have hpn : p < n := by have := hem.out; omega
          have u1 : (a : Int) - 1 = (p : Int) := by omega
          have u2 : IntKind.i64.wrap ((a : Int) - 1) = (p : Int) := by rw [IntKind.wrap_i64]; omega
          have u3 : IntKind.i64.wrap (p : Int) = (p : Int) := by rw [IntKind.wrap_i64]; omega
          have u4 : (0 : Int) < (a : Int) := by omega
          have u5 : (p : Int) < (n : Int) := by omega
          have u6 := o4 ha
          rw [hp] at u6
          clear hp
          have hnop := may_f (show mayN (t.getD p 0) = false from by rw [← hf0.out]; exact u6)
          obtain ⟨g, off, hA, hcap, hg, hg2, p0, p1, p2, p3, p4⟩ := hC.out _ p hbW5 (by omega)
          have hEp := hEm.out (t.getD p 0) (wr.alloc (.cells #[.int .i64 (a : Nat), .int .i64 (m : Nat)] 46))
          rw [decide_eq_false hnop.2] at hEp
          first | subst hA | (simp only [Option.some.injEq, Addr.mk.injEq, and_true] at hA; obtain ⟨rfl, rfl⟩ := hA)
          have kp := hnop.1
          generalize t.getD p 0 = yp at *
          have jp : (((kN yp : Nat) : Int) == 0) = false := by rw [beq_eq_false_iff_ne]; exact kp
          clear hnop
          go_wp2_with fail
          refine hEp.mono ?_
          rintro ep w6 ⟨rfl, hbnp⟩
          replace x0 := cellK5 x0 hbnp
          replace x1 := cellK5 x1 hbnp
          have hbWw6 := hbW5.trans (hbnp.mono hbW5.size)
          have hBWw6 := hB5.trans (hbnp.mono hB5.size)
          clear hEp hbnp p0 p1 p2 p3 p4 kp jp
          have v1 : (e : Int) < (n : Int) := by omega
          have v6 := o5 hen
          have hnoe := may_f (show mayN (t.getD e 0) = false from by rw [← hf0.out]; exact v6)
          obtain ⟨g, off, hA, hcap, hg, hg2, p0, p1, p2, p3, p4⟩ := hC.out _ e hbWw6 (by omega)
          have hEe := hEm.out (t.getD e 0) w6
          rw [decide_eq_false hnoe.2] at hEe
          first | subst hA | (simp only [Option.some.injEq, Addr.mk.injEq, and_true] at hA; obtain ⟨rfl, rfl⟩ := hA)
          have ke := hnoe.1
          generalize t.getD e 0 = ye at *
          have je : (((kN ye : Nat) : Int) == 0) = false := by rw [beq_eq_false_iff_ne]; exact ke
          clear hnoe
          go_wp2_with fail
          refine hEe.mono ?_
          rintro ee w7 ⟨rfl, hbne⟩
          replace x0 := cellK5 x0 hbne
          replace x1 := cellK5 x1 hbne
          have hbWw7 := hbWw6.trans (hbne.mono hbWw6.size)
          have hBWw7 := hBWw6.trans (hbne.mono hBWw6.size)
          clear hEe hbne p0 p1 p2 p3 p4 ke je
          go_wp2_with fail
          go_loopw [10] (fun i wq => ∃ q : Nat, q ≤ m ∧ i = .int .i64 q ∧ Below w7.heap.size w7 wq) (fun i _ => m + 1 - (intOf i).toNat)
          case atStart => exact ⟨0, Nat.zero_le _, rfl, Below.refl _ _⟩
          case round =>
            obtain ⟨q, hq, rfl, hQ⟩ := hrel
            have y0 := cellK5 x0 hQ
            have y1 := cellK5 x1 hQ
            have hbq := hbWw7.trans (hQ.mono hbWw7.size)
            have hBq := hBWw7.trans (hQ.mono hBWw7.size)
            by_cases hqm : q < m
            · have hqm' : (q : Int) < (m : Int) := by omega
              obtain ⟨z, hz⟩ : ∃ z, a + q = z := ⟨_, rfl⟩
              have hzn : z < n := by have := hem.out; omega
              have hmay := o3.out q hqm
              rw [hz, hf0.out] at hmay
              have hmt := may_t hmay
              obtain ⟨g, off, hA, hcap, hg, hg2, p0, p1, p2, p3, p4⟩ := hC.out _ z hbq hzn
              have hzI : (a : Int) + (q : Int) = (z : Int) := by omega
              have hzw : IntKind.i64.wrap ((a : Int) + (q : Int)) = (z : Int) := by rw [IntKind.wrap_i64]; omega
              have hzw2 : IntKind.i64.wrap (z : Int) = (z : Int) := by rw [IntKind.wrap_i64]; omega
              have hzn' : (z : Int) < (n : Int) := by omega
              have hEy := hEm.out (t.getD z 0)
              first | subst hA | (simp only [Option.some.injEq, Addr.mk.injEq, and_true] at hA; obtain ⟨rfl, rfl⟩ := hA)
              generalize t.getD z 0 = y at *
              obtain ⟨K, hK⟩ : ∃ K : Int, ((kN y : Nat) : Int) = K := ⟨_, rfl⟩
              rw [hK] at p0 hmt hEy
              clear hmay hz
              rcases hmt with hmt | hmt
              · subst hmt
                clear hK hEy
                go_wp2_with fail
                go_roundw
                case rel => exact ⟨q + 1, by omega, by go_num, hQ⟩
                case measure => first | (simp [intOf]; done) | (simp [intOf]; omega)
              · have hEz := hEy wr
                rw [decide_eq_true hmt] at hEz
                obtain ⟨rfl, -⟩ := hmt
                clear hK hEy
                go_wp2_with fail
                refine hEz.mono ?_
                rintro e9 w9 ⟨rfl, hb9⟩
                have hQ9 := hQ.trans (hb9.mono hQ.size)
                clear hEz hb9
                go_wp2_with fail
                go_roundw
                case rel => exact ⟨q + 1, by omega, by go_num, hQ9⟩
                case measure => first | (simp [intOf]; done) | (simp [intOf]; omega)
            · obtain rfl : q = m := by omega
              go_wp2_with fail
              go_roundw
              case rel => exact ⟨k + 1, (e : Int) - 1, by omega, by go_num, rfl, hnext, by omega, by omega, hBq⟩
              case measure => first | (simp [intOf]; done) | (simp [intOf]; omega)
        · skip
          obtain ⟨p, hp⟩ : ∃ p, a - 1 = p := ⟨_, rfl⟩
          have hpn : p < n := by have := hem.out; omega
          have u1 : (a : Int) - 1 = (p : Int) := by omega
          have u2 : IntKind.i64.wrap ((a : Int) - 1) = (p : Int) := by rw [IntKind.wrap_i64]; omega
          have u3 : IntKind.i64.wrap (p : Int) = (p : Int) := by rw [IntKind.wrap_i64]; omega
          have u4 : (0 : Int) < (a : Int) := by omega
          have u5 : (p : Int) < (n : Int) := by omega
          have u6 := o4 ha
          rw [hp] at u6
          clear hp
          have hnop := may_f (show mayN (t.getD p 0) = false from by rw [← hf0.out]; exact u6)
          obtain ⟨g, off, hA, hcap, hg, hg2, p0, p1, p2, p3, p4⟩ := hC.out _ p hbW5 (by omega)
          have hEp := hEm.out (t.getD p 0) (wr.alloc (.cells #[.int .i64 (a : Nat), .int .i64 (m : Nat)] 46))
          rw [decide_eq_false hnop.2] at hEp
          first | subst hA | (simp only [Option.some.injEq, Addr.mk.injEq, and_true] at hA; obtain ⟨rfl, rfl⟩ := hA)
          have kp := hnop.1
          generalize t.getD p 0 = yp at *
          have jp : (((kN yp : Nat) : Int) == 0) = false := by rw [beq_eq_false_iff_ne]; exact kp
          clear hnop
          go_wp2_with fail
          refine hEp.mono ?_
          rintro ep w6 ⟨rfl, hbnp⟩
          replace x0 := cellK5 x0 hbnp
          replace x1 := cellK5 x1 hbnp
          have hbWw6 := hbW5.trans (hbnp.mono hbW5.size)
          have hBWw6 := hB5.trans (hbnp.mono hB5.size)
          clear hEp hbnp p0 p1 p2 p3 p4 kp jp
          have v1 : ¬ (e : Int) < (n : Int) := by omega
          have v1' : decide ((e : Int) < (n : Int)) = false := decide_eq_false v1
          go_wp2_with fail
          go_loopw [10] (fun i wq => ∃ q : Nat, q ≤ m ∧ i = .int .i64 q ∧ Below w6.heap.size w6 wq) (fun i _ => m + 1 - (intOf i).toNat)
          case atStart => exact ⟨0, Nat.zero_le _, rfl, Below.refl _ _⟩
          case round =>
            obtain ⟨q, hq, rfl, hQ⟩ := hrel
            have y0 := cellK5 x0 hQ
            have y1 := cellK5 x1 hQ
            have hbq := hbWw6.trans (hQ.mono hbWw6.size)
            have hBq := hBWw6.trans (hQ.mono hBWw6.size)
            by_cases hqm : q < m
            · have hqm' : (q : Int) < (m : Int) := by omega
              obtain ⟨z, hz⟩ : ∃ z, a + q = z := ⟨_, rfl⟩
              have hzn : z < n := by have := hem.out; omega
              have hmay := o3.out q hqm
              rw [hz, hf0.out] at hmay
              have hmt := may_t hmay
              obtain ⟨g, off, hA, hcap, hg, hg2, p0, p1, p2, p3, p4⟩ := hC.out _ z hbq hzn
              have hzI : (a : Int) + (q : Int) = (z : Int) := by omega
              have hzw : IntKind.i64.wrap ((a : Int) + (q : Int)) = (z : Int) := by rw [IntKind.wrap_i64]; omega
              have hzw2 : IntKind.i64.wrap (z : Int) = (z : Int) := by rw [IntKind.wrap_i64]; omega
              have hzn' : (z : Int) < (n : Int) := by omega
              have hEy := hEm.out (t.getD z 0)
              first | subst hA | (simp only [Option.some.injEq, Addr.mk.injEq, and_true] at hA; obtain ⟨rfl, rfl⟩ := hA)
              generalize t.getD z 0 = y at *
              obtain ⟨K, hK⟩ : ∃ K : Int, ((kN y : Nat) : Int) = K := ⟨_, rfl⟩
              rw [hK] at p0 hmt hEy
              clear hmay hz
              rcases hmt with hmt | hmt
              · subst hmt
                clear hK hEy
                go_wp2_with fail
                go_roundw
                case rel => exact ⟨q + 1, by omega, by go_num, hQ⟩
                case measure => first | (simp [intOf]; done) | (simp [intOf]; omega)
              · have hEz := hEy wr
                rw [decide_eq_true hmt] at hEz
                obtain ⟨rfl, -⟩ := hmt
                clear hK hEy
                go_wp2_with fail
                refine hEz.mono ?_
                rintro e9 w9 ⟨rfl, hb9⟩
                have hQ9 := hQ.trans (hb9.mono hQ.size)
                clear hEz hb9
                go_wp2_with fail
                go_roundw
                case rel => exact ⟨q + 1, by omega, by go_num, hQ9⟩
                case measure => first | (simp [intOf]; done) | (simp [intOf]; omega)
            · obtain rfl : q = m := by omega
              go_wp2_with fail
              go_roundw
              case rel => exact ⟨k + 1, (e : Int) - 1, by omega, by go_num, rfl, hnext, by omega, by omega, hBq⟩
              case measure => first | (simp [intOf]; done) | (simp [intOf]; omega)
      · by_cases hen : e < n
        · skip
          have u4 : ¬ (0 : Int) < (a : Int) := by omega
          have u4' : decide ((0 : Int) < (a : Int)) = false := decide_eq_false u4
          have v1 : (e : Int) < (n : Int) := by omega
          have v6 := o5 hen
          have hnoe := may_f (show mayN (t.getD e 0) = false from by rw [← hf0.out]; exact v6)
          obtain ⟨g, off, hA, hcap, hg, hg2, p0, p1, p2, p3, p4⟩ := hC.out _ e hbW5 (by omega)
          have hEe := hEm.out (t.getD e 0) (wr.alloc (.cells #[.int .i64 (a : Nat), .int .i64 (m : Nat)] 46))
          rw [decide_eq_false hnoe.2] at hEe
          first | subst hA | (simp only [Option.some.injEq, Addr.mk.injEq, and_true] at hA; obtain ⟨rfl, rfl⟩ := hA)
          have ke := hnoe.1
          generalize t.getD e 0 = ye at *
          have je : (((kN ye : Nat) : Int) == 0) = false := by rw [beq_eq_false_iff_ne]; exact ke
          clear hnoe
          go_wp2_with fail
          refine hEe.mono ?_
          rintro ee w7 ⟨rfl, hbne⟩
          replace x0 := cellK5 x0 hbne
          replace x1 := cellK5 x1 hbne
          have hbWw7 := hbW5.trans (hbne.mono hbW5.size)
          have hBWw7 := hB5.trans (hbne.mono hB5.size)
          clear hEe hbne p0 p1 p2 p3 p4 ke je
          go_wp2_with fail
          go_loopw [10] (fun i wq => ∃ q : Nat, q ≤ m ∧ i = .int .i64 q ∧ Below w7.heap.size w7 wq) (fun i _ => m + 1 - (intOf i).toNat)
          case atStart => exact ⟨0, Nat.zero_le _, rfl, Below.refl _ _⟩
          case round =>
            obtain ⟨q, hq, rfl, hQ⟩ := hrel
            have y0 := cellK5 x0 hQ
            have y1 := cellK5 x1 hQ
            have hbq := hbWw7.trans (hQ.mono hbWw7.size)
            have hBq := hBWw7.trans (hQ.mono hBWw7.size)
            by_cases hqm : q < m
            · have hqm' : (q : Int) < (m : Int) := by omega
              obtain ⟨z, hz⟩ : ∃ z, a + q = z := ⟨_, rfl⟩
              have hzn : z < n := by have := hem.out; omega
              have hmay := o3.out q hqm
              rw [hz, hf0.out] at hmay
              have hmt := may_t hmay
              obtain ⟨g, off, hA, hcap, hg, hg2, p0, p1, p2, p3, p4⟩ := hC.out _ z hbq hzn
              have hzI : (a : Int) + (q : Int) = (z : Int) := by omega
              have hzw : IntKind.i64.wrap ((a : Int) + (q : Int)) = (z : Int) := by rw [IntKind.wrap_i64]; omega
              have hzw2 : IntKind.i64.wrap (z : Int) = (z : Int) := by rw [IntKind.wrap_i64]; omega
              have hzn' : (z : Int) < (n : Int) := by omega
              have hEy := hEm.out (t.getD z 0)
              first | subst hA | (simp only [Option.some.injEq, Addr.mk.injEq, and_true] at hA; obtain ⟨rfl, rfl⟩ := hA)
              generalize t.getD z 0 = y at *
              obtain ⟨K, hK⟩ : ∃ K : Int, ((kN y : Nat) : Int) = K := ⟨_, rfl⟩
              rw [hK] at p0 hmt hEy
              clear hmay hz
              rcases hmt with hmt | hmt
              · subst hmt
                clear hK hEy
                go_wp2_with fail
                go_roundw
                case rel => exact ⟨q + 1, by omega, by go_num, hQ⟩
                case measure => first | (simp [intOf]; done) | (simp [intOf]; omega)
              · have hEz := hEy wr
                rw [decide_eq_true hmt] at hEz
                obtain ⟨rfl, -⟩ := hmt
                clear hK hEy
                go_wp2_with fail
                refine hEz.mono ?_
                rintro e9 w9 ⟨rfl, hb9⟩
                have hQ9 := hQ.trans (hb9.mono hQ.size)
                clear hEz hb9
                go_wp2_with fail
                go_roundw
                case rel => exact ⟨q + 1, by omega, by go_num, hQ9⟩
                case measure => first | (simp [intOf]; done) | (simp [intOf]; omega)
            · obtain rfl : q = m := by omega
              go_wp2_with fail
              go_roundw
              case rel => exact ⟨k + 1, (e : Int) - 1, by omega, by go_num, rfl, hnext, by omega, by omega, hBq⟩
              case measure => first | (simp [intOf]; done) | (simp [intOf]; omega)
        · skip
          have u4 : ¬ (0 : Int) < (a : Int) := by omega
          have u4' : decide ((0 : Int) < (a : Int)) = false := decide_eq_false u4
          have v1 : ¬ (e : Int) < (n : Int) := by omega
          have v1' : decide ((e : Int) < (n : Int)) = false := decide_eq_false v1
          go_wp2_with fail
          go_wp2_with fail
          go_loopw [10] (fun i wq => ∃ q : Nat, q ≤ m ∧ i = .int .i64 q ∧ Below (wr.alloc (.cells #[.int .i64 (a : Nat), .int .i64 (m : Nat)] 46)).heap.size (wr.alloc (.cells #[.int .i64 (a : Nat), .int .i64 (m : Nat)] 46)) wq) (fun i _ => m + 1 - (intOf i).toNat)
          case atStart => exact ⟨0, Nat.zero_le _, rfl, Below.refl _ _⟩
          case round =>
            obtain ⟨q, hq, rfl, hQ⟩ := hrel
            have y0 := cellK5 x0 hQ
            have y1 := cellK5 x1 hQ
            have hbq := hbW5.trans (hQ.mono hbW5.size)
            have hBq := hB5.trans (hQ.mono hB5.size)
            by_cases hqm : q < m
            · have hqm' : (q : Int) < (m : Int) := by omega
              obtain ⟨z, hz⟩ : ∃ z, a + q = z := ⟨_, rfl⟩
              have hzn : z < n := by have := hem.out; omega
              have hmay := o3.out q hqm
              rw [hz, hf0.out] at hmay
              have hmt := may_t hmay
              obtain ⟨g, off, hA, hcap, hg, hg2, p0, p1, p2, p3, p4⟩ := hC.out _ z hbq hzn
              have hzI : (a : Int) + (q : Int) = (z : Int) := by omega
              have hzw : IntKind.i64.wrap ((a : Int) + (q : Int)) = (z : Int) := by rw [IntKind.wrap_i64]; omega
              have hzw2 : IntKind.i64.wrap (z : Int) = (z : Int) := by rw [IntKind.wrap_i64]; omega
              have hzn' : (z : Int) < (n : Int) := by omega
              have hEy := hEm.out (t.getD z 0)
              first | subst hA | (simp only [Option.some.injEq, Addr.mk.injEq, and_true] at hA; obtain ⟨rfl, rfl⟩ := hA)
              generalize t.getD z 0 = y at *
              obtain ⟨K, hK⟩ : ∃ K : Int, ((kN y : Nat) : Int) = K := ⟨_, rfl⟩
              rw [hK] at p0 hmt hEy
              clear hmay hz
              rcases hmt with hmt | hmt
              · subst hmt
                clear hK hEy
                go_wp2_with fail
                go_roundw
                case rel => exact ⟨q + 1, by omega, by go_num, hQ⟩
                case measure => first | (simp [intOf]; done) | (simp [intOf]; omega)
              · have hEz := hEy wr
                rw [decide_eq_true hmt] at hEz
                obtain ⟨rfl, -⟩ := hmt
                clear hK hEy
                go_wp2_with fail
                refine hEz.mono ?_
                rintro e9 w9 ⟨rfl, hb9⟩
                have hQ9 := hQ.trans (hb9.mono hQ.size)
                clear hEz hb9
                go_wp2_with fail
                go_roundw
                case rel => exact ⟨q + 1, by omega, by go_num, hQ9⟩
                case measure => first | (simp [intOf]; done) | (simp [intOf]; omega)
            · obtain rfl : q = m := by omega
              go_wp2_with fail
              go_roundw
              case rel => exact ⟨k + 1, (e : Int) - 1, by omega, by go_num, rfl, hnext, by omega, by omega, hBq⟩
              case measure => first | (simp [intOf]; done) | (simp [intOf]; omega)
    · obtain rfl : k = L := by omega
      have hBw := hB4.trans (hB.mono hB4.size)
      go_wp2_with fail
      go_ret
      exact ⟨rfl, hBw⟩
end Go.Proofs.YtnjifmecaeagaaaDoor
