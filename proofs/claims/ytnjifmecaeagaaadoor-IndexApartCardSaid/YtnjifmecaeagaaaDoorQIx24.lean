/-
  The laws of package index: IndexApart.
-/
import Derived.Test.YtnjifmecaeagaaaDoorQF
import Derived.Test.YtnjifmecaeagaaaDoorQE
set_option linter.unusedVariables false
set_option linter.unusedSimpArgs false
namespace Go.Proofs.YtnjifmecaeagaaaDoor
open Go.Lib Go.RowKit Go.ChangeShapes Go.WideShapes Go.Deep
theorem take_words {S S' : List St} {n : Nat} {p : Plc} (h : TakeR S (ofN n) (chN n) S' (some p)) (h1 : 1 ≤ chN n) (h2 : chN n ≤ 8191) : n + 2 ≤ (newB p (gS S' p.ch)).2.2 := by
  have hof : ∀ c, ofN n = some c → n + 2 ≤ blN c := fun c hc => by
    unfold ofN at hc
    split at hc
    · cases hc; unfold blN; simp; omega
    · split at hc
      · cases hc; unfold blN; simp; omega
      · split at hc
        · cases hc; unfold blN; simp; omega
        · cases hc
  generalize ho : ofN n = o at *
  generalize hm : chN n = m at *
  generalize hr : some p = r at *
  cases h with
  | @run c _ i j hi kk hcc hj hfirst =>
    cases hr
    simp only [newB]
    rw [gS_set _ _ _ _ hi, if_pos rfl]
    simp only []
    rw [if_pos kk, hcc]
    exact hof c rfl
  | @fresh c _ i hno hrow hfirst =>
    cases hr
    have hi : i < S.length := by have := hrow.1; omega
    have c3 := ofN_lt ho
    simp only [newB]
    rw [gS_set _ _ _ _ hi, if_pos rfl]
    simp only []
    rw [if_pos (parts_run c c3).1, (parts_run c c3).2.1]
    exact hof c rfl
  | @full c _ hno hrow => cases hr
  | @huge _ a hrow hfirst =>
    cases hr
    simp only [newB]
    rw [gS_huge h1 hrow.1, if_pos rfl]
    simp only []
    rw [if_neg (by have := (parts_huge m h1 h2).1; omega), (parts_huge m h1 h2).2.1]
    unfold chN at hm
    omega
  | @fullH _ hrow => cases hr
def atB (a b : Nat) (x : Bl) : Bool := decide (x.1 = a) && decide (x.2.1 = b)
def seenB (l : List Bl) (a b j : Nat) : Bool := (l.take j).any (atB a b)
theorem seenB_step {l : List Bl} {a b j : Nat} (h : j < l.length) : seenB l a b (j + 1) = (seenB l a b j || atB a b (l.getD j default)) := by
  unfold seenB; rw [take_getD l default h, List.any_append]; simp
theorem seenB_all {l : List Bl} {a b : Nat} {x : Bl} (hx : x ∈ l) (h1 : x.1 = a) (h2 : x.2.1 = b) : seenB l a b l.length = true := by
  unfold seenB
  rw [List.take_length, List.any_eq_true]
  exact ⟨x, hx, by unfold atB; rw [decide_eq_true h1, decide_eq_true h2]; rfl⟩
def hasB (l : List Bl) (x : Bl) (j : Nat) : Bool := (l.take j).any fun y => decide (y = x)
theorem hasB_step {l : List Bl} {x : Bl} {j : Nat} (h : j < l.length) : hasB l x (j + 1) = (hasB l x j || decide (l.getD j default = x)) := by
  unfold hasB; rw [take_getD l default h, List.any_append]; simp
theorem hasB_all {l : List Bl} {x : Bl} (hx : x ∈ l) : hasB l x l.length = true := by
  unfold hasB
  rw [List.take_length, List.any_eq_true]
  exact ⟨x, hx, decide_eq_true rfl⟩
set_option maxRecDepth 100000 in
set_option maxHeartbeats 4000000 in
theorem indexApart (v : Value) (l : List Nat) (u : Value) (z : List Nat) (w : World) (hw : Lw w) (hH : HL l) (hv : KL .u16 w v l) (hG : HL z) (hu : KL .u16 w u z) :
    Calls Tryd.prog 11 #[v, u] w fun e w' => e = .returned (.bool true) ∧ Below w.heap.size w w' := by
  have hAw := awake17 w hw
  obtain ⟨nn, hnn⟩ : ∃ n, l.length = n := ⟨_, rfl⟩
  obtain ⟨A, cap, rfl, _⟩ := hv.form hnn
  obtain ⟨mm, hmm⟩ : ∃ n, z.length = n := ⟨_, rfl⟩
  obtain ⟨Az, capz, rfl, hZ⟩ := hu.form hmm
  by_cases h40 : 40 < nn
  · have h40' : (40 : Int) < (nn : Int) := by omega
    clear hv hH hw hu hG hZ
    replace hnn := Lib.hid hnn
    replace hmm := Lib.hid hmm
    go_enter Tryd.func11, Tryd.ntmps11
    go_wp2_with fail
    refine hAw.mono ?_
    rintro e w1 ⟨rfl, hb1⟩
    go_wp2_with fail
    go_ret
    exact ⟨rfl, hb1⟩
  have h40' : ¬ (40 : Int) < (nn : Int) := by omega
  by_cases hm40 : 40 < mm
  · have hm40' : (40 : Int) < (mm : Int) := by omega
    clear hv hH hw hu hG hZ
    replace hnn := Lib.hid hnn
    replace hmm := Lib.hid hmm
    go_enter Tryd.func11, Tryd.ntmps11
    go_wp2_with fail
    refine hAw.mono ?_
    rintro e w1 ⟨rfl, hb1⟩
    go_wp2_with fail
    go_ret
    exact ⟨rfl, hb1⟩
  have hm40' : ¬ (40 : Int) < (mm : Int) := by omega
  have hZx := Lib.hid (fun k (hk : k < mm) => show z.getD k 0 < 65536 from by
    rw [List.getD_eq_getElem?_getD, List.getElem?_eq_getElem (by omega)]; exact hG _ (List.getElem_mem _))
  replace hZ := Lib.hid hZ
  replace hmm := Lib.hid hmm
  clear hu hG
  have hM1 := Lib.hid (fun w1 (hb : Below w.heap.size w w1) => made_any _ l 20 w1 (hw.keep hb) hH (hv.keep hb) (by omega) (by omega))
  have hwh := Lib.hid hw
  replace hnn := Lib.hid hnn
  clear hv hw hH h40
  go_enter Tryd.func11, Tryd.ntmps11
  go_wp2_with fail
  refine hAw.mono ?_
  rintro e w1 ⟨rfl, hb1⟩
  have hMa := hM1.out _ hb1
  rw [show (((20 : Nat) : Int)) = 20 from rfl] at hMa
  clear hAw hM1
  go_wp2_with fail
  refine hMa.mono ?_
  rintro e w2 ⟨v2, t, rfl, ho2, hrt, htl, hb2⟩
  have hB2 := hb1.trans (hb2.mono hb1.size)
  have hk2 := ho2.kl
  obtain ⟨tn, htn⟩ : ∃ k, t.length = k := ⟨_, rfl⟩
  obtain ⟨At, ct, rfl⟩ := ho2.sl htn
  have hNw := new_any _ t w2 (hwh.out.keep hB2) hk2 (rightT_WL hrt) (by omega)
  clear ho2 hMa hb1 hb2
  go_wp2_with fail
  refine hNw.mono ?_
  rintro e w3 ⟨hP, hb3⟩
  obtain ⟨B, vx, rfl, hS3⟩ := Sess.of_new hP hb3 hB2 hwh.out hrt (by omega)
  have hk3 := hk2.keep hb3
  clear hNw hP hk2
  have hn0 := new_noTk t
  have hl0 : (t.map stN).length ≤ 20 := by rw [List.length_map]; exact htl
  have hsf := sFrom_new hrt
  have hBk := blocksT_any _ t w3 hS3.lw hk3 (rightT_WL hrt) (by omega)
  clear htn
  go_wp2_with fail
  refine hBk.mono ?_
  rintro e w4 ⟨v4, rfl, ho4, hb4⟩
  have hS4 := hS3.keep hb4
  have hne4 := Lib.hid (fun k (q : v4.ownBlock = some k) => hS3.notOwn (D := k) (ho4.lt k q).1)
  have hwl := blksT_len t
  obtain ⟨wn, hwn⟩ : ∃ k, (blksT t).length = k := ⟨_, rfl⟩
  obtain ⟨Aw, cw, rfl⟩ := ho4.sl hwn
  have hwn9 : wn ≤ 160 := by omega
  have hT := Lib.hid (fun (w1 : World) (S : List St) (h : Sess w w1 B vx S) (q : Nat) (hq : q ≤ 4096) => h.take hwh.out q hq)
  have hln0 : Hid ((sFrom 0 (t.map stN)).length = wn + 0) := Lib.hid (by rw [hsf, hwn, Nat.add_zero])
  have hwm0 : Hid (∀ b ∈ blksT t, b ∈ sFrom 0 (t.map stN)) := Lib.hid (fun b hb => by rw [hsf]; exact hb)
  generalize t.map stN = S0 at *
  generalize hbt : blksT t = was at *
  have hC4 := Chg.refl (fun k => vx.ownBlock = some k) w4
  clear htl hb3 hB2 hb4 hBk hS3 hsf hrt hk3 hbt hwl
  replace hwn := Lib.hid hwn
  go_wp2_with fail
  go_loopw [9, 10] (fun kv iv wr => ∃ (i kept : Nat) (S : List St), i ≤ mm ∧ kept ≤ i ∧ iv = .int .i64 i ∧ kv = .int .i64 kept ∧ Sess w wr B vx S ∧ noTk S ∧ S.length ≤ 20 ∧ Hid ((sFrom 0 S).length = wn + kept) ∧ Hid (∀ b ∈ was, b ∈ sFrom 0 S) ∧ Chg (fun k => vx.ownBlock = some k) w4 wr) (fun _ iv _ => mm + 1 - (intOf iv).toNat)
  case atStart => exact ⟨0, 0, S0, Nat.zero_le _, Nat.le_refl _, rfl, rfl, hS4, hn0, hl0, hln0, hwm0, hC4⟩
  case round =>
    obtain ⟨i, kept, S, hi, hki, rfl, rfl, hS, hn, hl20, hln, hwm, hCw⟩ := hrel
    clear hS4 hn0 hl0 hln0 hwm0 hC4
    by_cases hlt : i < mm
    · have hlt' : (i : Int) < (mm : Int) := by omega
      have hbw : Below w.heap.size w wr := hS.bel
      obtain ⟨gz, oz, rfl, hcz, _, z0⟩ := hZ.out wr i hbw hlt
      have hx9 := hZx.out i hlt
      generalize z.getD i 0 = x at *
      obtain ⟨q, hq⟩ : ∃ q, x % 200 = q := ⟨_, rfl⟩
      have hq9 : q ≤ 200 := by omega
      have m1 : ((x : Nat) : Int) % 200 = (q : Int) := by omega
      have m2 : (((x : Nat) : Int)).tmod 200 = (q : Int) := by rw [Int.tmod_eq_emod_of_nonneg (by omega)]; exact m1
      replace hq := Lib.hid hq
      have hX := hT.out _ _ hS q (by omega)
      clear hbw
      go_wp2_with fail
      clear m1 m2 z0
      refine hX.mono ?_
      rintro e w5 ⟨S1, r, hTk, he, hS5, hAt, hsf, hC5⟩
      have hC5w := hCw.trans hC5 (fun j q => .inl q)
      have hl1 : S1.length ≤ 20 := by rw [len_takeR hTk]; exact hl20
      clear hX hCw
      cases r with
      | none =>
        replace he : e = .returned (.tuple #[plV 0 0 0 0 false, .int .i64 2]) := he
        subst he
        have hA := (Below.refl w5.heap.size w5).alloc (Nat.le_refl _) (.cells #[.int .i64 0, .int .i64 0, .int .i64 0, .int .i64 0, .bool false] 62)
        replace hS5 := hS5.keep hA
        obtain rfl : S1 = S := take_none hTk
        have hC6 := hC5w.trans (Chg.of_below (fun k => vx.ownBlock = some k) hA) (fun j q => .inl q)
        clear hS hTk hsf hA hC5
        go_wp2_with fail
        go_roundw
        case rel => exact ⟨i + 1, kept, S1, by omega, by omega, by go_num, rfl, hS5, hn, hl1, hln, hwm, hC6⟩
        case measure => first | (simp [intOf]; done) | (simp [intOf]; omega)
      | some p =>
        replace he : e = .returned (.tuple #[plV (p.ch : Nat) (p.ix : Nat) p.cl (p.mn : Nat) p.fr, .int .i64 0]) := he
        subst he
        have hta := hAt p rfl
        have hK := keep_ok hS5.ok hta
        have hn1 := keep_noTk hS.ok hn hTk (fun c h => ofN_lt h) (chN_bd (by omega)).1 (chN_bd (by omega)).2
        have hwd := take_words hTk (chN_bd (by omega)).1 (chN_bd (by omega)).2
        have hln1 : Hid ((sFrom 0 S1).length = wn + kept) := Lib.hid (by rw [hsf]; exact hln.out)
        have hwm1 : Hid (∀ b ∈ was, b ∈ sFrom 0 S1) := Lib.hid (by rw [hsf]; exact hwm.out)
        have pa := PlAt.new w5 p.ch p.ix p.cl p.mn p.fr
        have hn5 := hS5.notOwn (Nat.le_refl _)
        have hA := (Below.refl w5.heap.size w5).alloc (Nat.le_refl _) (.cells #[.int .i64 (p.ch : Nat), .int .i64 (p.ix : Nat), .int .i64 p.cl, .int .i64 (p.mn : Nat), .bool p.fr] 62)
        replace hS5 := hS5.keep hA
        have hC6 := hC5w.trans (Chg.of_below (fun k => vx.ownBlock = some k) hA) (fun j q => .inl q)
        have hX := hS5.table
        have hbt := blks_table hS5.ok
        have hok1 := table_ok hS5.ok
        obtain ⟨hWt, hLt⟩ : WL (tableS S1) ∧ (tableS S1).length ≤ 1000 := by
          refine ⟨fun y hy => ?_, by rw [table_len]; omega⟩
          have := okN_bd (List.all_eq_true.1 hok1 y hy)
          omega
        have hsl := sFrom_bd hS5.ok
        replace hK := Lib.hid hK
        clear hS hTk hsf hA hC5 hC5w hln hwm hAt hok1
        go_wp2_with fail
        generalize w5.heap.size = D at *
        refine hX.mono ?_
        rintro e w6 ⟨⟨v6, rfl, ho6⟩, hb6⟩
        have hS6 := hS5.keep hb6
        replace pa := pa.keep hb6
        replace hC6 := hC6.trans (Chg.of_below (fun k => vx.ownBlock = some k) hb6) (fun j q => .inl q)
        have hX2 := blocksT_any _ (tableS S1) w6 hS6.lw ho6.kl hWt (by omega)
        rw [hbt] at hX2
        clear hX ho6 hb6 hS5
        go_wp2_with fail
        refine hX2.mono ?_
        rintro e w7 ⟨v7, rfl, ho7, hb7⟩
        have hS7 := hS6.keep hb7
        replace pa := pa.keep hb7
        replace hC6 := hC6.trans (Chg.of_below (fun k => vx.ownBlock = some k) hb7) (fun j q => .inl q)
        obtain ⟨an, han⟩ : ∃ k, (sFrom 0 S1).length = k := ⟨_, rfl⟩
        obtain ⟨Aa, ca, rfl⟩ := ho7.sl han
        have hX : Calls Tryd.prog 43 #[.pointer (some ⟨B, 0, none⟩), plV (p.ch : Nat) (p.ix : Nat) p.cl (p.mn : Nat) p.fr] _ _ := hS7.keepOk hwh.out hta
        obtain ⟨c0, c1, c2, c3, c4⟩ := pa.cells
        replace han := Lib.hid han
        clear hX2 ho7 hb7 hS6 hWt hLt hbt
        go_wp2_with fail
        refine hX.mono ?_
        rintro e w8 ⟨rfl, hS8, hC8⟩
        replace pa := pa.chg hC8 hn5
        replace hC6 := hC6.trans hC8 (fun j q => .inl q)
        have hX2 : Calls Tryd.prog 43 #[.pointer (some ⟨B, 0, none⟩), plV (p.ch : Nat) (p.ix : Nat) p.cl (p.mn : Nat) p.fr] _ _ := hS8.keepNo hwh.out hK.out.noKeep
        clear hX hS7 hC8 c0 c1 c2 c3 c4
        obtain ⟨c0, c1, c2, c3, c4⟩ := pa.cells
        go_wp2_with fail
        refine hX2.mono ?_
        rintro e w9 ⟨rfl, hS9, hC9⟩
        replace pa := pa.chg hC9 hn5
        replace hC6 := hC6.trans hC9 (fun j q => .inl q)
        have hX : Calls Tryd.prog 41 #[.pointer (some ⟨B, 0, none⟩), plV (p.ch : Nat) (p.ix : Nat) p.cl (p.mn : Nat) p.fr] _ _ := hS9.dropNo hwh.out hK.out.noDrop
        clear hX2 hS8 hC9 c0 c1 c2 c3 c4
        obtain ⟨c0, c1, c2, c3, c4⟩ := pa.cells
        go_wp2_with fail
        refine hX.mono ?_
        rintro e w10 ⟨rfl, hS10, hC10⟩
        replace pa := pa.chg hC10 hn5
        replace hC6 := hC6.trans hC10 (fun j q => .inl q)
        have hK1 := hK.out
        have hl2 : (keepS S1 p.ch p.ix p.cl p.mn).2.length ≤ 20 := by rw [hK1.len]; exact hl1
        have hX2 := hS10.table
        generalize (keepS S1 p.ch p.ix p.cl p.mn).2 = S2 at *
        have hbt := blks_table hS10.ok
        have hrt := right_table hS10.ok hn1
        have hsl2 := sFrom_bd hS10.ok
        have htl2 : (tableS S2).length ≤ 20 := by rw [table_len]; exact hl2
        have hln2 : Hid ((sFrom 0 S2).length = wn + (kept + 1)) := Lib.hid (by rw [hK1.more, hln1.out]; omega)
        have hwm2 : Hid (∀ b ∈ was, b ∈ sFrom 0 S2) := Lib.hid (fun b hb => hK1.was b (hwm1.out b hb))
        have hbn : (sFrom 0 S2).length = an + 1 := by rw [hK1.more, han.out]
        have hsee := Lib.hid (seenB_all hK1.here rfl rfl)
        have honly := Lib.hid (fun k (hk : k < an + 1) (q1 : ((sFrom 0 S2).getD k default).1 = p.ch) (q2 : ((sFrom 0 S2).getD k default).2.1 = p.ix) => show q + 2 ≤ ((sFrom 0 S2).getD k default).2.2 from by
          rw [hK1.only _ (getD_mem default (by omega)) q1 q2]; exact hwd)
        have hss := Lib.hid (fun k (hk : k < an + 1) => seenB_step (l := sFrom 0 S2) (a := p.ch) (b := p.ix) (j := k) (by omega))
        have hw9 := Lib.hid (fun k (hk : k < an + 1) => show ((sFrom 0 S2).getD k default).2.2 ≤ 300000 from by
          have := getD_mem (l := sFrom 0 S2) default (show k < (sFrom 0 S2).length by omega)
          rw [← hbt] at this ⊢
          exact blks_bd this)
        have han9 : an ≤ 160 := by have := han.out; omega
        clear hX hS9 hC10 c0 c1 c2 c3 c4 hK hK1 hta hwd hln1 hwm1 hsl hsl2 han hn5
        go_wp2_with fail
        refine hX2.mono ?_
        rintro e w11 ⟨⟨v11, rfl, ho11⟩, hb11⟩
        have hS11 := hS10.keep hb11
        replace pa := pa.keep hb11
        replace hC6 := hC6.trans (Chg.of_below (fun k => vx.ownBlock = some k) hb11) (fun j q => .inl q)
        have hX := blocksT_any _ (tableS S2) w11 hS11.lw ho11.kl (rightT_WL hrt) (by omega)
        rw [hbt] at hX
        clear hX2 ho11 hb11 hS10
        go_wp2_with fail
        refine hX.mono ?_
        rintro e w12 ⟨v12, rfl, ho12, hb12⟩
        have hS12 := hS11.keep hb12
        replace pa := pa.keep hb12
        replace hC6 := hC6.trans (Chg.of_below (fun k => vx.ownBlock = some k) hb12) (fun j q => .inl q)
        have hk12 := ho12.el eB_len
        obtain ⟨Ab, cb, rfl⟩ := ho12.sl hbn
        have hX2 := hS12.table
        have e1 : IntKind.i64.wrap ((an : Int) + 1) = (an : Int) + 1 := by rw [IntKind.wrap_i64]; omega
        clear hX ho12 hb12 hS11
        go_wp2_with fail
        refine hX2.mono ?_
        rintro e w13 ⟨⟨v13, rfl, ho13⟩, hb13⟩
        have hS13 := hS12.keep hb13
        replace pa := pa.keep hb13
        replace hk12 := hk12.keep hb13
        replace hC6 := hC6.trans (Chg.of_below (fun k => vx.ownBlock = some k) hb13) (fun j q => .inl q)
        have hX := right_any2 _ (tableS S2) w13 hS13.lw ho13.kl (rightT_WL hrt) (by omega)
        rw [hrt] at hX
        clear hX2 ho13 hb13 hS12
        go_wp2_with fail
        refine hX.mono ?_
        rintro e w14 ⟨rfl, hb14⟩
        have hS14 := hS13.keep hb14
        replace pa := pa.keep hb14
        replace hk12 := hk12.keep hb14
        replace hC6 := hC6.trans (Chg.of_below (fun k => vx.ownBlock = some k) hb14) (fun j q => .inl q)
        obtain ⟨Ab2, cb2, he, hBl⟩ := BKL.form hk12 hbn
        simp only [Value.slice.injEq, true_and] at he
        obtain ⟨rfl, rfl⟩ := he
        replace hBl := Lib.hid hBl
        rw [hbn] at hsee
        replace hbn := Lib.hid hbn
        have hs0 : Hid (false = seenB (sFrom 0 S2) p.ch p.ix 0) := Lib.hid rfl
        have hk9 : kept ≤ 40 := by omega
        clear hX hb14 hS13 hk12 hrt hbt htl2
        go_wp2_with fail
        clear e1
        go_loopw [16, 17] (fun bv kv wr => ∃ (k : Nat) (b : Bool), k ≤ an + 1 ∧ kv = .int .i64 k ∧ bv = .bool b ∧ Hid (b = seenB (sFrom 0 S2) p.ch p.ix k) ∧ Below w14.heap.size w14 wr) (fun _ kv _ => an + 2 - (intOf kv).toNat)
        case atStart => exact ⟨0, false, Nat.zero_le _, rfl, rfl, hs0, Below.refl _ _⟩
        case round =>
          obtain ⟨k, b, hk, rfl, rfl, hb, hB2⟩ := hrel
          by_cases hkl : k < an + 1
          · have hkl' : (k : Int) < (an : Int) + 1 := by omega
            have hst := hss.out k hkl
            have hon := honly.out k hkl
            have hww := hw9.out k hkl
            obtain ⟨gb, ob, hAe, hcap, _, hgb, r0, r1, r2⟩ := hBl.out wr k hB2 hkl
            subst hAe
            obtain ⟨d0, d1, _, _, _⟩ := (pa.keep hB2).cells
            generalize (sFrom 0 S2).getD k default = s at *
            obtain ⟨a1, a2, a3⟩ := s
            simp only [] at r0 r1 r2 hon hww
            rw [← hb.out] at hst
            have e4 : IntKind.i64.wrap ((q : Int) + 2) = (q : Int) + 2 := by rw [IntKind.wrap_i64]; omega
            by_cases q1 : a1 = p.ch
            · have f1 : ((a1 : Int) == (p.ch : Int)) = true := by rw [beq_iff_eq]; omega
              by_cases q2 : a2 = p.ix
              · have f2 : ((a2 : Int) == (p.ix : Int)) = true := by rw [beq_iff_eq]; omega
                have hwd := hon q1 q2
                have f3 : decide ((q : Int) + 2 ≤ (a3 : Int)) = true := decide_eq_true (by omega)
                have HB : Hid (true = seenB (sFrom 0 S2) p.ch p.ix (k + 1)) := Lib.hid (by rw [hst]; unfold atB; simp only [decide_eq_true q1, decide_eq_true q2, Bool.and_self, Bool.or_true])
                clear hst q1 q2 hon hwd
                go_wp2_with fail
                refine wp_region_held_drew (S := (fun w' => w' = wr.drew)) (by kernel_rfl) ?_ (fun hHeld => ?_)
                · (try dsimp only)
                  (first | done | rfl)
                refine takeL 0 (v := ?_) rfl (by kernel_rfl) (by kernel_rfl) (by kernel_rfl) (fun _ _ _ h => h) (by rfl) (by assumption) ?_ ?_
                rotate_left
                · (intro w hSw; (subst hSw); go_simp <;> with_reducible rfl)
                try simp only [Act.put, List.setIfInBounds_toArray, List.set_cons_zero, List.set_cons_succ]
                refine takeL 1 (v := ?_) rfl (by kernel_rfl) (by kernel_rfl) (by kernel_rfl) (fun _ _ _ h => h) (by rfl) (by assumption) ?_ ?_
                rotate_left
                · (intro w hSw; (subst hSw); go_simp <;> with_reducible rfl)
                try simp only [Act.put, List.setIfInBounds_toArray, List.set_cons_zero, List.set_cons_succ]
                refine takeL 2 (v := ?_) rfl (by kernel_rfl) (by kernel_rfl) (by kernel_rfl) (fun _ _ _ h => h) (by rfl) (by assumption) ?_ ?_
                rotate_left
                · (intro w hSw; (subst hSw); go_simp <;> with_reducible rfl)
                try simp only [Act.put, List.setIfInBounds_toArray, List.set_cons_zero, List.set_cons_succ]
                refine takeL 3 (v := ?_) rfl (by kernel_rfl) (by kernel_rfl) (by kernel_rfl) (fun _ _ _ h => h) (by rfl) (by assumption) ?_ ?_
                rotate_left
                · (intro w hSw; (subst hSw); go_simp <;> with_reducible rfl)
                try simp only [Act.put, List.setIfInBounds_toArray, List.set_cons_zero, List.set_cons_succ]
                refine takeL 4 (v := ?_) rfl (by kernel_rfl) (by kernel_rfl) (by kernel_rfl) (fun _ _ _ h => h) (by rfl) (by assumption) ?_ ?_
                rotate_left
                · (intro w hSw; (subst hSw); go_simp <;> with_reducible rfl)
                try simp only [Act.put, List.setIfInBounds_toArray, List.set_cons_zero, List.set_cons_succ]
                refine takeL 5 (v := ?_) rfl (by kernel_rfl) (by kernel_rfl) (by kernel_rfl) (fun _ _ _ h => h) (by rfl) (by assumption) ?_ ?_
                rotate_left
                · (intro w hSw; (subst hSw); go_simp <;> with_reducible rfl)
                try simp only [Act.put, List.setIfInBounds_toArray, List.set_cons_zero, List.set_cons_succ]
                refine takeL 6 (v := ?_) rfl (by kernel_rfl) (by kernel_rfl) (by kernel_rfl) (fun _ _ _ h => h) (by rfl) (by assumption) ?_ ?_
                rotate_left
                · (intro w hSw; (subst hSw); go_simp <;> with_reducible rfl)
                try simp only [Act.put, List.setIfInBounds_toArray, List.set_cons_zero, List.set_cons_succ]
                refine takeL 7 (v := ?_) rfl (by kernel_rfl) (by kernel_rfl) (by kernel_rfl) (fun _ _ _ h => h) (by rfl) (by assumption) ?_ ?_
                rotate_left
                · (intro w hSw; (subst hSw); go_simp <;> with_reducible rfl)
                try simp only [Act.put, List.setIfInBounds_toArray, List.set_cons_zero, List.set_cons_succ]
                refine takeL 8 (v := ?_) rfl (by kernel_rfl) (by kernel_rfl) (by kernel_rfl) (fun _ _ _ h => h) (by rfl) (by assumption) ?_ ?_
                rotate_left
                · (intro w hSw; (subst hSw); go_simp <;> with_reducible rfl)
                try simp only [Act.put, List.setIfInBounds_toArray, List.set_cons_zero, List.set_cons_succ]
                refine takeL 9 (v := ?_) rfl (by kernel_rfl) (by kernel_rfl) (by kernel_rfl) (fun _ _ _ h => h) (by rfl) (by assumption) ?_ ?_
                rotate_left
                · (intro w hSw; (subst hSw); go_simp <;> with_reducible rfl)
                try simp only [Act.put, List.setIfInBounds_toArray, List.set_cons_zero, List.set_cons_succ]
                refine takeL 10 (v := ?_) rfl (by kernel_rfl) (by kernel_rfl) (by kernel_rfl) (fun _ _ _ h => h) (by rfl) (by assumption) ?_ ?_
                rotate_left
                · (intro w hSw; (subst hSw); go_simp <;> with_reducible rfl)
                try simp only [Act.put, List.setIfInBounds_toArray, List.set_cons_zero, List.set_cons_succ]
                refine takeL 11 (v := ?_) rfl (by kernel_rfl) (by kernel_rfl) (by kernel_rfl) (fun _ _ _ h => h) (by rfl) (by assumption) ?_ ?_
                rotate_left
                · (intro w hSw; (subst hSw); go_simp <;> with_reducible rfl)
                try simp only [Act.put, List.setIfInBounds_toArray, List.set_cons_zero, List.set_cons_succ]
                refine takeL 12 (v := ?_) rfl (by kernel_rfl) (by kernel_rfl) (by kernel_rfl) (fun _ _ _ h => h) (by rfl) (by assumption) ?_ ?_
                rotate_left
                · (intro w hSw; (subst hSw); go_simp <;> with_reducible rfl)
                try simp only [Act.put, List.setIfInBounds_toArray, List.set_cons_zero, List.set_cons_succ]
                refine takeL 13 (v := ?_) rfl (by kernel_rfl) (by kernel_rfl) (by kernel_rfl) (fun _ _ _ h => h) (by rfl) (by assumption) ?_ ?_
                rotate_left
                · (intro w hSw; (subst hSw); go_simp <;> with_reducible rfl)
                try simp only [Act.put, List.setIfInBounds_toArray, List.set_cons_zero, List.set_cons_succ]
                refine takeL 14 (v := ?_) rfl (by kernel_rfl) (by kernel_rfl) (by kernel_rfl) (fun _ _ _ h => h) (by rfl) (by assumption) ?_ ?_
                rotate_left
                · (intro w hSw; (subst hSw); go_simp <;> with_reducible rfl)
                try simp only [Act.put, List.setIfInBounds_toArray, List.set_cons_zero, List.set_cons_succ]
                refine takeL 15 (v := ?_) rfl (by kernel_rfl) (by kernel_rfl) (by kernel_rfl) (fun _ _ _ h => h) (by rfl) (by assumption) ?_ ?_
                rotate_left
                · (intro w hSw; (subst hSw); go_simp <;> with_reducible rfl)
                try simp only [Act.put, List.setIfInBounds_toArray, List.set_cons_zero, List.set_cons_succ]
                refine takeL 16 (v := ?_) rfl (by kernel_rfl) (by kernel_rfl) (by kernel_rfl) (fun _ _ _ h => h) (by rfl) (by assumption) ?_ ?_
                rotate_left
                · (intro w hSw; (subst hSw); go_simp <;> with_reducible rfl)
                try simp only [Act.put, List.setIfInBounds_toArray, List.set_cons_zero, List.set_cons_succ]
                refine takeL 17 (v := ?_) rfl (by kernel_rfl) (by kernel_rfl) (by kernel_rfl) (fun _ _ _ h => h) (by rfl) (by assumption) ?_ ?_
                rotate_left
                · (intro w hSw; (subst hSw); go_simp <;> with_reducible rfl)
                try simp only [Act.put, List.setIfInBounds_toArray, List.set_cons_zero, List.set_cons_succ]
                refine wpAnyH_done (by kernel_rfl) ?_ _
                clear hHeld
                go_wp2_with fail
                go_roundw
                case rel => exact ⟨k + 1, true, by omega, by go_num, rfl, HB, hB2.drew⟩
                case measure => first | (simp [intOf]; done) | (simp [intOf]; omega)
              · have f2 : ((a2 : Int) == (p.ix : Int)) = false := by rw [beq_eq_false_iff_ne]; omega
                have HB : Hid (b = seenB (sFrom 0 S2) p.ch p.ix (k + 1)) := Lib.hid (by rw [hst]; unfold atB; simp only [decide_eq_false q2, Bool.and_false, Bool.or_false])
                clear hst q1 q2 hon
                go_wp2_with fail
                refine wp_region_held_drew (S := (fun w' => w' = wr.drew)) (by kernel_rfl) ?_ (fun hHeld => ?_)
                · (try dsimp only)
                  (first | done | rfl)
                refine takeL 0 (v := ?_) rfl (by kernel_rfl) (by kernel_rfl) (by kernel_rfl) (fun _ _ _ h => h) (by rfl) (by assumption) ?_ ?_
                rotate_left
                · (intro w hSw; (subst hSw); go_simp <;> with_reducible rfl)
                try simp only [Act.put, List.setIfInBounds_toArray, List.set_cons_zero, List.set_cons_succ]
                refine takeL 1 (v := ?_) rfl (by kernel_rfl) (by kernel_rfl) (by kernel_rfl) (fun _ _ _ h => h) (by rfl) (by assumption) ?_ ?_
                rotate_left
                · (intro w hSw; (subst hSw); go_simp <;> with_reducible rfl)
                try simp only [Act.put, List.setIfInBounds_toArray, List.set_cons_zero, List.set_cons_succ]
                refine takeL 2 (v := ?_) rfl (by kernel_rfl) (by kernel_rfl) (by kernel_rfl) (fun _ _ _ h => h) (by rfl) (by assumption) ?_ ?_
                rotate_left
                · (intro w hSw; (subst hSw); go_simp <;> with_reducible rfl)
                try simp only [Act.put, List.setIfInBounds_toArray, List.set_cons_zero, List.set_cons_succ]
                refine takeL 3 (v := ?_) rfl (by kernel_rfl) (by kernel_rfl) (by kernel_rfl) (fun _ _ _ h => h) (by rfl) (by assumption) ?_ ?_
                rotate_left
                · (intro w hSw; (subst hSw); go_simp <;> with_reducible rfl)
                try simp only [Act.put, List.setIfInBounds_toArray, List.set_cons_zero, List.set_cons_succ]
                refine takeL 4 (v := ?_) rfl (by kernel_rfl) (by kernel_rfl) (by kernel_rfl) (fun _ _ _ h => h) (by rfl) (by assumption) ?_ ?_
                rotate_left
                · (intro w hSw; (subst hSw); go_simp <;> with_reducible rfl)
                try simp only [Act.put, List.setIfInBounds_toArray, List.set_cons_zero, List.set_cons_succ]
                refine takeL 5 (v := ?_) rfl (by kernel_rfl) (by kernel_rfl) (by kernel_rfl) (fun _ _ _ h => h) (by rfl) (by assumption) ?_ ?_
                rotate_left
                · (intro w hSw; (subst hSw); go_simp <;> with_reducible rfl)
                try simp only [Act.put, List.setIfInBounds_toArray, List.set_cons_zero, List.set_cons_succ]
                refine takeL 6 (v := ?_) rfl (by kernel_rfl) (by kernel_rfl) (by kernel_rfl) (fun _ _ _ h => h) (by rfl) (by assumption) ?_ ?_
                rotate_left
                · (intro w hSw; (subst hSw); go_simp <;> with_reducible rfl)
                try simp only [Act.put, List.setIfInBounds_toArray, List.set_cons_zero, List.set_cons_succ]
                refine takeL 7 (v := ?_) rfl (by kernel_rfl) (by kernel_rfl) (by kernel_rfl) (fun _ _ _ h => h) (by rfl) (by assumption) ?_ ?_
                rotate_left
                · (intro w hSw; (subst hSw); go_simp <;> with_reducible rfl)
                try simp only [Act.put, List.setIfInBounds_toArray, List.set_cons_zero, List.set_cons_succ]
                refine takeL 8 (v := ?_) rfl (by kernel_rfl) (by kernel_rfl) (by kernel_rfl) (fun _ _ _ h => h) (by rfl) (by assumption) ?_ ?_
                rotate_left
                · (intro w hSw; (subst hSw); go_simp <;> with_reducible rfl)
                try simp only [Act.put, List.setIfInBounds_toArray, List.set_cons_zero, List.set_cons_succ]
                refine takeL 9 (v := ?_) rfl (by kernel_rfl) (by kernel_rfl) (by kernel_rfl) (fun _ _ _ h => h) (by rfl) (by assumption) ?_ ?_
                rotate_left
                · (intro w hSw; (subst hSw); go_simp <;> with_reducible rfl)
                try simp only [Act.put, List.setIfInBounds_toArray, List.set_cons_zero, List.set_cons_succ]
                refine takeL 10 (v := ?_) rfl (by kernel_rfl) (by kernel_rfl) (by kernel_rfl) (fun _ _ _ h => h) (by rfl) (by assumption) ?_ ?_
                rotate_left
                · (intro w hSw; (subst hSw); go_simp <;> with_reducible rfl)
                try simp only [Act.put, List.setIfInBounds_toArray, List.set_cons_zero, List.set_cons_succ]
                refine takeL 11 (v := ?_) rfl (by kernel_rfl) (by kernel_rfl) (by kernel_rfl) (fun _ _ _ h => h) (by rfl) (by assumption) ?_ ?_
                rotate_left
                · (intro w hSw; (subst hSw); go_simp <;> with_reducible rfl)
                try simp only [Act.put, List.setIfInBounds_toArray, List.set_cons_zero, List.set_cons_succ]
                refine takeL 12 (v := ?_) rfl (by kernel_rfl) (by kernel_rfl) (by kernel_rfl) (fun _ _ _ h => h) (by rfl) (by assumption) ?_ ?_
                rotate_left
                · (intro w hSw; (subst hSw); go_simp <;> with_reducible rfl)
                try simp only [Act.put, List.setIfInBounds_toArray, List.set_cons_zero, List.set_cons_succ]
                refine takeL 13 (v := ?_) rfl (by kernel_rfl) (by kernel_rfl) (by kernel_rfl) (fun _ _ _ h => h) (by rfl) (by assumption) ?_ ?_
                rotate_left
                · (intro w hSw; (subst hSw); go_simp <;> with_reducible rfl)
                try simp only [Act.put, List.setIfInBounds_toArray, List.set_cons_zero, List.set_cons_succ]
                refine takeL 14 (v := ?_) rfl (by kernel_rfl) (by kernel_rfl) (by kernel_rfl) (fun _ _ _ h => h) (by rfl) (by assumption) ?_ ?_
                rotate_left
                · (intro w hSw; (subst hSw); go_simp <;> with_reducible rfl)
                try simp only [Act.put, List.setIfInBounds_toArray, List.set_cons_zero, List.set_cons_succ]
                refine takeL 15 (v := ?_) rfl (by kernel_rfl) (by kernel_rfl) (by kernel_rfl) (fun _ _ _ h => h) (by rfl) (by assumption) ?_ ?_
                rotate_left
                · (intro w hSw; (subst hSw); go_simp <;> with_reducible rfl)
                try simp only [Act.put, List.setIfInBounds_toArray, List.set_cons_zero, List.set_cons_succ]
                refine takeL 16 (v := ?_) rfl (by kernel_rfl) (by kernel_rfl) (by kernel_rfl) (fun _ _ _ h => h) (by rfl) (by assumption) ?_ ?_
                rotate_left
                · (intro w hSw; (subst hSw); go_simp <;> with_reducible rfl)
                try simp only [Act.put, List.setIfInBounds_toArray, List.set_cons_zero, List.set_cons_succ]
                refine takeL 17 (v := ?_) rfl (by kernel_rfl) (by kernel_rfl) (by kernel_rfl) (fun _ _ _ h => h) (by rfl) (by assumption) ?_ ?_
                rotate_left
                · (intro w hSw; (subst hSw); go_simp <;> with_reducible rfl)
                try simp only [Act.put, List.setIfInBounds_toArray, List.set_cons_zero, List.set_cons_succ]
                refine wpAnyH_done (by kernel_rfl) ?_ _
                clear hHeld
                go_wp2_with fail
                go_roundw
                case rel => exact ⟨k + 1, b, by omega, by go_num, rfl, HB, hB2.drew⟩
                case measure => first | (simp [intOf]; done) | (simp [intOf]; omega)
            · have f1 : ((a1 : Int) == (p.ch : Int)) = false := by rw [beq_eq_false_iff_ne]; omega
              have HB : Hid (b = seenB (sFrom 0 S2) p.ch p.ix (k + 1)) := Lib.hid (by rw [hst]; unfold atB; simp only [decide_eq_false q1, Bool.false_and, Bool.or_false])
              clear hst q1 hon
              go_wp2_with fail
              refine wp_region_held_drew (S := (fun w' => w' = wr.drew)) (by kernel_rfl) ?_ (fun hHeld => ?_)
              · (try dsimp only)
                (first | done | rfl)
              refine takeL 0 (v := ?_) rfl (by kernel_rfl) (by kernel_rfl) (by kernel_rfl) (fun _ _ _ h => h) (by rfl) (by assumption) ?_ ?_
              rotate_left
              · (intro w hSw; (subst hSw); go_simp <;> with_reducible rfl)
              try simp only [Act.put, List.setIfInBounds_toArray, List.set_cons_zero, List.set_cons_succ]
              refine takeL 1 (v := ?_) rfl (by kernel_rfl) (by kernel_rfl) (by kernel_rfl) (fun _ _ _ h => h) (by rfl) (by assumption) ?_ ?_
              rotate_left
              · (intro w hSw; (subst hSw); go_simp <;> with_reducible rfl)
              try simp only [Act.put, List.setIfInBounds_toArray, List.set_cons_zero, List.set_cons_succ]
              refine takeL 2 (v := ?_) rfl (by kernel_rfl) (by kernel_rfl) (by kernel_rfl) (fun _ _ _ h => h) (by rfl) (by assumption) ?_ ?_
              rotate_left
              · (intro w hSw; (subst hSw); go_simp <;> with_reducible rfl)
              try simp only [Act.put, List.setIfInBounds_toArray, List.set_cons_zero, List.set_cons_succ]
              refine takeL 3 (v := ?_) rfl (by kernel_rfl) (by kernel_rfl) (by kernel_rfl) (fun _ _ _ h => h) (by rfl) (by assumption) ?_ ?_
              rotate_left
              · (intro w hSw; (subst hSw); go_simp <;> with_reducible rfl)
              try simp only [Act.put, List.setIfInBounds_toArray, List.set_cons_zero, List.set_cons_succ]
              refine takeL 4 (v := ?_) rfl (by kernel_rfl) (by kernel_rfl) (by kernel_rfl) (fun _ _ _ h => h) (by rfl) (by assumption) ?_ ?_
              rotate_left
              · (intro w hSw; (subst hSw); go_simp <;> with_reducible rfl)
              try simp only [Act.put, List.setIfInBounds_toArray, List.set_cons_zero, List.set_cons_succ]
              refine takeL 5 (v := ?_) rfl (by kernel_rfl) (by kernel_rfl) (by kernel_rfl) (fun _ _ _ h => h) (by rfl) (by assumption) ?_ ?_
              rotate_left
              · (intro w hSw; (subst hSw); go_simp <;> with_reducible rfl)
              try simp only [Act.put, List.setIfInBounds_toArray, List.set_cons_zero, List.set_cons_succ]
              refine takeL 6 (v := ?_) rfl (by kernel_rfl) (by kernel_rfl) (by kernel_rfl) (fun _ _ _ h => h) (by rfl) (by assumption) ?_ ?_
              rotate_left
              · (intro w hSw; (subst hSw); go_simp <;> with_reducible rfl)
              try simp only [Act.put, List.setIfInBounds_toArray, List.set_cons_zero, List.set_cons_succ]
              refine takeL 7 (v := ?_) rfl (by kernel_rfl) (by kernel_rfl) (by kernel_rfl) (fun _ _ _ h => h) (by rfl) (by assumption) ?_ ?_
              rotate_left
              · (intro w hSw; (subst hSw); go_simp <;> with_reducible rfl)
              try simp only [Act.put, List.setIfInBounds_toArray, List.set_cons_zero, List.set_cons_succ]
              refine takeL 8 (v := ?_) rfl (by kernel_rfl) (by kernel_rfl) (by kernel_rfl) (fun _ _ _ h => h) (by rfl) (by assumption) ?_ ?_
              rotate_left
              · (intro w hSw; (subst hSw); go_simp <;> with_reducible rfl)
              try simp only [Act.put, List.setIfInBounds_toArray, List.set_cons_zero, List.set_cons_succ]
              refine idleL 9 rfl (by kernel_rfl) (by kernel_rfl) (by kernel_rfl) (fun _ _ _ h => h) (by rfl) (by assumption) ?_
              try simp only [Act.put, List.setIfInBounds_toArray, List.set_cons_zero, List.set_cons_succ]
              refine idleL 10 rfl (by kernel_rfl) (by kernel_rfl) (by kernel_rfl) (fun _ _ _ h => h) (by rfl) (by assumption) ?_
              try simp only [Act.put, List.setIfInBounds_toArray, List.set_cons_zero, List.set_cons_succ]
              refine idleL 11 rfl (by kernel_rfl) (by kernel_rfl) (by kernel_rfl) (fun _ _ _ h => h) (by rfl) (by assumption) ?_
              try simp only [Act.put, List.setIfInBounds_toArray, List.set_cons_zero, List.set_cons_succ]
              refine idleL 12 rfl (by kernel_rfl) (by kernel_rfl) (by kernel_rfl) (fun _ _ _ h => h) (by rfl) (by assumption) ?_
              try simp only [Act.put, List.setIfInBounds_toArray, List.set_cons_zero, List.set_cons_succ]
              refine idleL 13 rfl (by kernel_rfl) (by kernel_rfl) (by kernel_rfl) (fun _ _ _ h => h) (by rfl) (by assumption) ?_
              try simp only [Act.put, List.setIfInBounds_toArray, List.set_cons_zero, List.set_cons_succ]
              refine idleL 14 rfl (by kernel_rfl) (by kernel_rfl) (by kernel_rfl) (fun _ _ _ h => h) (by rfl) (by assumption) ?_
              try simp only [Act.put, List.setIfInBounds_toArray, List.set_cons_zero, List.set_cons_succ]
              refine idleL 15 rfl (by kernel_rfl) (by kernel_rfl) (by kernel_rfl) (fun _ _ _ h => h) (by rfl) (by assumption) ?_
              try simp only [Act.put, List.setIfInBounds_toArray, List.set_cons_zero, List.set_cons_succ]
              refine idleL 16 rfl (by kernel_rfl) (by kernel_rfl) (by kernel_rfl) (fun _ _ _ h => h) (by rfl) (by assumption) ?_
              try simp only [Act.put, List.setIfInBounds_toArray, List.set_cons_zero, List.set_cons_succ]
              refine takeL 17 (v := ?_) rfl (by kernel_rfl) (by kernel_rfl) (by kernel_rfl) (fun _ _ _ h => h) (by rfl) (by assumption) ?_ ?_
              rotate_left
              · (intro w hSw; (subst hSw); go_simp <;> with_reducible rfl)
              try simp only [Act.put, List.setIfInBounds_toArray, List.set_cons_zero, List.set_cons_succ]
              refine wpAnyH_done (by kernel_rfl) ?_ _
              clear hHeld
              go_wp2_with fail
              go_roundw
              case rel => exact ⟨k + 1, b, by omega, by go_num, rfl, HB, hB2.drew⟩
              case measure => first | (simp [intOf]; done) | (simp [intOf]; omega)
          · obtain rfl : k = an + 1 := by omega
            have hbt : b = true := by rw [hb.out]; exact hsee.out
            subst hbt
            have hS15 := hS14.keep hB2
            have hC15 := hC6.trans (Chg.of_below (fun k => vx.ownBlock = some k) hB2) (fun j q => .inl q)
            clear hB2 hb hsee honly hss hw9 hBl hS14 hC6 pa
            go_wp2_with fail
            go_roundw
            case rel => exact ⟨i + 1, kept + 1, S2, by omega, by omega, by go_num, by go_num, hS15, hn1, hl2, hln2, hwm2, hC15⟩
            case measure => first | (simp [intOf]; done) | (simp [intOf]; omega)
    · obtain rfl : i = mm := by omega
      have hX := hS.table
      have hbt := blks_table hS.ok
      have hrt := right_table hS.ok hn
      have htl2 : (tableS S).length ≤ 20 := by rw [table_len]; exact hl20
      have hk9 : kept ≤ 40 := by omega
      have hmem := Lib.hid (fun k (hk : k < wn) => hwm.out (was.getD k default) (getD_mem default (by rw [hwn.out]; exact hk)))
      clear hlt hwm
      go_wp2_with fail
      refine hX.mono ?_
      rintro e w5 ⟨⟨v5, rfl, ho5⟩, hb5⟩
      have hS5 := hS.keep hb5
      have hC5 := hCw.trans (Chg.of_below (fun k => vx.ownBlock = some k) hb5) (fun j q => .inl q)
      have hX2 := blocksT_any _ (tableS S) w5 hS5.lw ho5.kl (rightT_WL hrt) (by omega)
      rw [hbt] at hX2
      clear hX ho5 hb5 hS hCw
      go_wp2_with fail
      refine hX2.mono ?_
      rintro e w6 ⟨v6, rfl, ho6, hb6⟩
      have hS6 := hS5.keep hb6
      have hC6 := hC5.trans (Chg.of_below (fun k => vx.ownBlock = some k) hb6) (fun j q => .inl q)
      obtain ⟨wk, hwk⟩ : ∃ k, wn + kept = k := ⟨_, rfl⟩
      have hnl : (sFrom 0 S).length = wk := by rw [← hwk]; exact hln.out
      have hk6 := ho6.el eB_len
      obtain ⟨Ab, cb, rfl⟩ := ho6.sl hnl
      have hkw := (ho4.chg hC6 hne4.out).el eB_len
      obtain ⟨Ab2, cb2, he, hBl⟩ := BKL.form hk6 hnl
      simp only [Value.slice.injEq, true_and] at he
      obtain ⟨rfl, rfl⟩ := he
      obtain ⟨Aw2, cw2, he, hWl⟩ := BKL.form hkw hwn.out
      simp only [Value.slice.injEq, true_and] at he
      obtain ⟨rfl, rfl⟩ := he
      have hbel := hS6.bel
      have hhs := Lib.hid (fun k (hk : k < wk) x => hasB_step (l := sFrom 0 S) (x := x) (j := k) (by omega))
      have hha := Lib.hid (fun x (hx : x ∈ sFrom 0 S) => show hasB (sFrom 0 S) x wk = true from by rw [← hnl]; exact hasB_all hx)
      have hh0 := Lib.hid (fun x => show false = hasB (sFrom 0 S) x 0 from rfl)
      have e9 : IntKind.i64.wrap ((wn : Int) + (kept : Int)) = (wk : Int) := by rw [IntKind.wrap_i64]; omega
      have e8 : (wn : Int) + (kept : Int) = (wk : Int) := by omega
      have hwk9 : wk ≤ 200 := by omega
      replace hnl := Lib.hid hnl
      replace hwk := Lib.hid hwk
      replace hBl := Lib.hid hBl
      replace hWl := Lib.hid hWl
      have e7 := Lib.hid e9
      have e6 := Lib.hid e8
      clear hX2 ho6 hb6 hS5 hS6 hC5 hC6 hk6 hkw hrt hbt hln ho4 e9 e8
      go_wp2_with fail
      go_loopw [19] (fun kv wr => ∃ (j : Nat), j ≤ wn ∧ kv = .int .i64 j ∧ Below w6.heap.size w6 wr) (fun kv _ => wn + 1 - (intOf kv).toNat)
      case atStart => exact ⟨0, Nat.zero_le _, rfl, Below.refl _ _⟩
      case round =>
        obtain ⟨j, hj, rfl, hB1⟩ := hrel
        by_cases hjl : j < wn
        · have hjl' : (j : Int) < (wn : Int) := by omega
          have hmm2 := hmem.out j hjl
          go_wp2_with fail
          go_loopw [20, 21] (fun bv kv wr => ∃ (k : Nat) (b : Bool), k ≤ wk ∧ kv = .int .i64 k ∧ bv = .bool b ∧ Hid (b = hasB (sFrom 0 S) (was.getD j default) k) ∧ Below w6.heap.size w6 wr) (fun _ kv _ => wk + 1 - (intOf kv).toNat)
          case atStart => exact ⟨0, false, Nat.zero_le _, rfl, rfl, Lib.hid (hh0.out _), hB1⟩
          case round =>
            obtain ⟨k, b, hk, rfl, rfl, hb, hB2⟩ := hrel
            clear hB1
            by_cases hkl : k < wk
            · have hkl' : (k : Int) < (wk : Int) := by omega
              have hst := hhs.out k hkl (was.getD j default)
              rw [← hb.out] at hst
              cases b with
              | true =>
                rw [Bool.true_or] at hst
                have HB := Lib.hid hst.symm
                clear hst
                go_wp2_with fail
                refine wp_region_held_drew (S := (fun w' => w' = wr.drew)) (by kernel_rfl) ?_ (fun hHeld => ?_)
                · (try dsimp only)
                  (first | done | rfl)
                refine takeL 0 (v := ?_) rfl (by kernel_rfl) (by kernel_rfl) (by kernel_rfl) (fun _ _ _ h => h) (by rfl) (by assumption) ?_ ?_
                rotate_left
                · (intro w hSw; (subst hSw); go_simp <;> with_reducible rfl)
                try simp only [Act.put, List.setIfInBounds_toArray, List.set_cons_zero, List.set_cons_succ]
                refine takeL 1 (v := ?_) rfl (by kernel_rfl) (by kernel_rfl) (by kernel_rfl) (fun _ _ _ h => h) (by rfl) (by assumption) ?_ ?_
                rotate_left
                · (intro w hSw; (subst hSw); go_simp <;> with_reducible rfl)
                try simp only [Act.put, List.setIfInBounds_toArray, List.set_cons_zero, List.set_cons_succ]
                refine idleL 2 rfl (by kernel_rfl) (by kernel_rfl) (by kernel_rfl) (fun _ _ _ h => h) (by rfl) (by assumption) ?_
                try simp only [Act.put, List.setIfInBounds_toArray, List.set_cons_zero, List.set_cons_succ]
                refine idleL 3 rfl (by kernel_rfl) (by kernel_rfl) (by kernel_rfl) (fun _ _ _ h => h) (by rfl) (by assumption) ?_
                try simp only [Act.put, List.setIfInBounds_toArray, List.set_cons_zero, List.set_cons_succ]
                refine idleL 4 rfl (by kernel_rfl) (by kernel_rfl) (by kernel_rfl) (fun _ _ _ h => h) (by rfl) (by assumption) ?_
                try simp only [Act.put, List.setIfInBounds_toArray, List.set_cons_zero, List.set_cons_succ]
                refine idleL 5 rfl (by kernel_rfl) (by kernel_rfl) (by kernel_rfl) (fun _ _ _ h => h) (by rfl) (by assumption) ?_
                try simp only [Act.put, List.setIfInBounds_toArray, List.set_cons_zero, List.set_cons_succ]
                refine idleL 6 rfl (by kernel_rfl) (by kernel_rfl) (by kernel_rfl) (fun _ _ _ h => h) (by rfl) (by assumption) ?_
                try simp only [Act.put, List.setIfInBounds_toArray, List.set_cons_zero, List.set_cons_succ]
                refine idleL 7 rfl (by kernel_rfl) (by kernel_rfl) (by kernel_rfl) (fun _ _ _ h => h) (by rfl) (by assumption) ?_
                try simp only [Act.put, List.setIfInBounds_toArray, List.set_cons_zero, List.set_cons_succ]
                refine idleL 8 rfl (by kernel_rfl) (by kernel_rfl) (by kernel_rfl) (fun _ _ _ h => h) (by rfl) (by assumption) ?_
                try simp only [Act.put, List.setIfInBounds_toArray, List.set_cons_zero, List.set_cons_succ]
                refine idleL 9 rfl (by kernel_rfl) (by kernel_rfl) (by kernel_rfl) (fun _ _ _ h => h) (by rfl) (by assumption) ?_
                try simp only [Act.put, List.setIfInBounds_toArray, List.set_cons_zero, List.set_cons_succ]
                refine idleL 10 rfl (by kernel_rfl) (by kernel_rfl) (by kernel_rfl) (fun _ _ _ h => h) (by rfl) (by assumption) ?_
                try simp only [Act.put, List.setIfInBounds_toArray, List.set_cons_zero, List.set_cons_succ]
                refine takeL 11 (v := ?_) rfl (by kernel_rfl) (by kernel_rfl) (by kernel_rfl) (fun _ _ _ h => h) (by rfl) (by assumption) ?_ ?_
                rotate_left
                · (intro w hSw; (subst hSw); go_simp <;> with_reducible rfl)
                try simp only [Act.put, List.setIfInBounds_toArray, List.set_cons_zero, List.set_cons_succ]
                refine takeL 12 (v := ?_) rfl (by kernel_rfl) (by kernel_rfl) (by kernel_rfl) (fun _ _ _ h => h) (by rfl) (by assumption) ?_ ?_
                rotate_left
                · (intro w hSw; (subst hSw); go_simp <;> with_reducible rfl)
                try simp only [Act.put, List.setIfInBounds_toArray, List.set_cons_zero, List.set_cons_succ]
                refine wpAnyH_done (by kernel_rfl) ?_ _
                clear hHeld
                go_wp2_with fail
                go_roundw
                case rel => exact ⟨k + 1, true, by omega, by go_num, rfl, HB, hB2.drew⟩
                case measure => first | (simp [intOf]; done) | (simp [intOf]; omega)
              | false =>
                rw [Bool.false_or] at hst
                obtain ⟨gb, ob, hAe, hcap, _, hgb, r0, r1, r2⟩ := hBl.out wr k hB2 hkl
                subst hAe
                obtain ⟨ga, oa, hAe2, hcap2, _, hga, s0, s1, s2⟩ := hWl.out wr j hB2 hjl
                subst hAe2
                have hbh := hb
                generalize (sFrom 0 S).getD k default = s at *
                generalize hy : was.getD j default = y at *
                obtain ⟨a1, a2, a3⟩ := s
                obtain ⟨y1, y2, y3⟩ := y
                simp only [] at r0 r1 r2 s0 s1 s2
                by_cases q1 : a1 = y1
                · by_cases q2 : a2 = y2
                  · by_cases q3 : a3 = y3
                    · subst q1 q2 q3
                      have HB : Hid (true = hasB (sFrom 0 S) (a1, a2, a3) (k + 1)) := Lib.hid (by rw [hst, decide_eq_true rfl])
                      clear hst hy hbh hb
                      go_wp2_with fail
                      refine wp_region_held_drew (S := (fun w' => w' = wr.drew)) (by kernel_rfl) ?_ (fun hHeld => ?_)
                      · (try dsimp only)
                        (first | done | rfl)
                      refine takeL 0 (v := ?_) rfl (by kernel_rfl) (by kernel_rfl) (by kernel_rfl) (fun _ _ _ h => h) (by rfl) (by assumption) ?_ ?_
                      rotate_left
                      · (intro w hSw; (subst hSw); go_simp <;> with_reducible rfl)
                      try simp only [Act.put, List.setIfInBounds_toArray, List.set_cons_zero, List.set_cons_succ]
                      refine takeL 1 (v := ?_) rfl (by kernel_rfl) (by kernel_rfl) (by kernel_rfl) (fun _ _ _ h => h) (by rfl) (by assumption) ?_ ?_
                      rotate_left
                      · (intro w hSw; (subst hSw); go_simp <;> with_reducible rfl)
                      try simp only [Act.put, List.setIfInBounds_toArray, List.set_cons_zero, List.set_cons_succ]
                      refine takeL 2 (v := ?_) rfl (by kernel_rfl) (by kernel_rfl) (by kernel_rfl) (fun _ _ _ h => h) (by rfl) (by assumption) ?_ ?_
                      rotate_left
                      · (intro w hSw; (subst hSw); go_simp <;> with_reducible rfl)
                      try simp only [Act.put, List.setIfInBounds_toArray, List.set_cons_zero, List.set_cons_succ]
                      refine takeL 3 (v := ?_) rfl (by kernel_rfl) (by kernel_rfl) (by kernel_rfl) (fun _ _ _ h => h) (by rfl) (by assumption) ?_ ?_
                      rotate_left
                      · (intro w hSw; (subst hSw); go_simp <;> with_reducible rfl)
                      try simp only [Act.put, List.setIfInBounds_toArray, List.set_cons_zero, List.set_cons_succ]
                      refine takeL 4 (v := ?_) rfl (by kernel_rfl) (by kernel_rfl) (by kernel_rfl) (fun _ _ _ h => h) (by rfl) (by assumption) ?_ ?_
                      rotate_left
                      · (intro w hSw; (subst hSw); go_simp <;> with_reducible rfl)
                      try simp only [Act.put, List.setIfInBounds_toArray, List.set_cons_zero, List.set_cons_succ]
                      refine takeL 5 (v := ?_) rfl (by kernel_rfl) (by kernel_rfl) (by kernel_rfl) (fun _ _ _ h => h) (by rfl) (by assumption) ?_ ?_
                      rotate_left
                      · (intro w hSw; (subst hSw); go_simp <;> with_reducible rfl)
                      try simp only [Act.put, List.setIfInBounds_toArray, List.set_cons_zero, List.set_cons_succ]
                      refine takeL 6 (v := ?_) rfl (by kernel_rfl) (by kernel_rfl) (by kernel_rfl) (fun _ _ _ h => h) (by rfl) (by assumption) ?_ ?_
                      rotate_left
                      · (intro w hSw; (subst hSw); go_simp <;> with_reducible rfl)
                      try simp only [Act.put, List.setIfInBounds_toArray, List.set_cons_zero, List.set_cons_succ]
                      refine takeL 7 (v := ?_) rfl (by kernel_rfl) (by kernel_rfl) (by kernel_rfl) (fun _ _ _ h => h) (by rfl) (by assumption) ?_ ?_
                      rotate_left
                      · (intro w hSw; (subst hSw); go_simp <;> with_reducible rfl)
                      try simp only [Act.put, List.setIfInBounds_toArray, List.set_cons_zero, List.set_cons_succ]
                      refine takeL 8 (v := ?_) rfl (by kernel_rfl) (by kernel_rfl) (by kernel_rfl) (fun _ _ _ h => h) (by rfl) (by assumption) ?_ ?_
                      rotate_left
                      · (intro w hSw; (subst hSw); go_simp <;> with_reducible rfl)
                      try simp only [Act.put, List.setIfInBounds_toArray, List.set_cons_zero, List.set_cons_succ]
                      refine takeL 9 (v := ?_) rfl (by kernel_rfl) (by kernel_rfl) (by kernel_rfl) (fun _ _ _ h => h) (by rfl) (by assumption) ?_ ?_
                      rotate_left
                      · (intro w hSw; (subst hSw); go_simp <;> with_reducible rfl)
                      try simp only [Act.put, List.setIfInBounds_toArray, List.set_cons_zero, List.set_cons_succ]
                      refine takeL 10 (v := ?_) rfl (by kernel_rfl) (by kernel_rfl) (by kernel_rfl) (fun _ _ _ h => h) (by rfl) (by assumption) ?_ ?_
                      rotate_left
                      · (intro w hSw; (subst hSw); go_simp <;> with_reducible rfl)
                      try simp only [Act.put, List.setIfInBounds_toArray, List.set_cons_zero, List.set_cons_succ]
                      refine takeL 11 (v := ?_) rfl (by kernel_rfl) (by kernel_rfl) (by kernel_rfl) (fun _ _ _ h => h) (by rfl) (by assumption) ?_ ?_
                      rotate_left
                      · (intro w hSw; (subst hSw); go_simp <;> with_reducible rfl)
                      try simp only [Act.put, List.setIfInBounds_toArray, List.set_cons_zero, List.set_cons_succ]
                      refine takeL 12 (v := ?_) rfl (by kernel_rfl) (by kernel_rfl) (by kernel_rfl) (fun _ _ _ h => h) (by rfl) (by assumption) ?_ ?_
                      rotate_left
                      · (intro w hSw; (subst hSw); go_simp <;> with_reducible rfl)
                      try simp only [Act.put, List.setIfInBounds_toArray, List.set_cons_zero, List.set_cons_succ]
                      refine wpAnyH_done (by kernel_rfl) ?_ _
                      clear hHeld
                      go_wp2_with fail
                      go_roundw
                      case rel => exact ⟨k + 1, true, by omega, by go_num, rfl, HB, hB2.drew⟩
                      case measure => first | (simp [intOf]; done) | (simp [intOf]; omega)
                    · have HB : Hid (false = hasB (sFrom 0 S) (y1, y2, y3) (k + 1)) := Lib.hid (by rw [hst, decide_eq_false (fun q => q3 (by cases q; rfl))])
                      subst q1 q2
                      have f1 : ((a3 : Int) == (y3 : Int)) = false := by rw [beq_eq_false_iff_ne]; omega
                      have f2 : (a3 == y3) = false := by rw [beq_eq_false_iff_ne]; omega
                      clear hst hy hbh hb q3
                      go_wp2_with fail
                      refine wp_region_held_drew (S := (fun w' => w' = wr.drew)) (by kernel_rfl) ?_ (fun hHeld => ?_)
                      · (try dsimp only)
                        (first | done | rfl)
                      refine takeL 0 (v := ?_) rfl (by kernel_rfl) (by kernel_rfl) (by kernel_rfl) (fun _ _ _ h => h) (by rfl) (by assumption) ?_ ?_
                      rotate_left
                      · (intro w hSw; (subst hSw); go_simp <;> with_reducible rfl)
                      try simp only [Act.put, List.setIfInBounds_toArray, List.set_cons_zero, List.set_cons_succ]
                      refine takeL 1 (v := ?_) rfl (by kernel_rfl) (by kernel_rfl) (by kernel_rfl) (fun _ _ _ h => h) (by rfl) (by assumption) ?_ ?_
                      rotate_left
                      · (intro w hSw; (subst hSw); go_simp <;> with_reducible rfl)
                      try simp only [Act.put, List.setIfInBounds_toArray, List.set_cons_zero, List.set_cons_succ]
                      refine takeL 2 (v := ?_) rfl (by kernel_rfl) (by kernel_rfl) (by kernel_rfl) (fun _ _ _ h => h) (by rfl) (by assumption) ?_ ?_
                      rotate_left
                      · (intro w hSw; (subst hSw); go_simp <;> with_reducible rfl)
                      try simp only [Act.put, List.setIfInBounds_toArray, List.set_cons_zero, List.set_cons_succ]
                      refine takeL 3 (v := ?_) rfl (by kernel_rfl) (by kernel_rfl) (by kernel_rfl) (fun _ _ _ h => h) (by rfl) (by assumption) ?_ ?_
                      rotate_left
                      · (intro w hSw; (subst hSw); go_simp <;> with_reducible rfl)
                      try simp only [Act.put, List.setIfInBounds_toArray, List.set_cons_zero, List.set_cons_succ]
                      refine takeL 4 (v := ?_) rfl (by kernel_rfl) (by kernel_rfl) (by kernel_rfl) (fun _ _ _ h => h) (by rfl) (by assumption) ?_ ?_
                      rotate_left
                      · (intro w hSw; (subst hSw); go_simp <;> with_reducible rfl)
                      try simp only [Act.put, List.setIfInBounds_toArray, List.set_cons_zero, List.set_cons_succ]
                      refine takeL 5 (v := ?_) rfl (by kernel_rfl) (by kernel_rfl) (by kernel_rfl) (fun _ _ _ h => h) (by rfl) (by assumption) ?_ ?_
                      rotate_left
                      · (intro w hSw; (subst hSw); go_simp <;> with_reducible rfl)
                      try simp only [Act.put, List.setIfInBounds_toArray, List.set_cons_zero, List.set_cons_succ]
                      refine takeL 6 (v := ?_) rfl (by kernel_rfl) (by kernel_rfl) (by kernel_rfl) (fun _ _ _ h => h) (by rfl) (by assumption) ?_ ?_
                      rotate_left
                      · (intro w hSw; (subst hSw); go_simp <;> with_reducible rfl)
                      try simp only [Act.put, List.setIfInBounds_toArray, List.set_cons_zero, List.set_cons_succ]
                      refine takeL 7 (v := ?_) rfl (by kernel_rfl) (by kernel_rfl) (by kernel_rfl) (fun _ _ _ h => h) (by rfl) (by assumption) ?_ ?_
                      rotate_left
                      · (intro w hSw; (subst hSw); go_simp <;> with_reducible rfl)
                      try simp only [Act.put, List.setIfInBounds_toArray, List.set_cons_zero, List.set_cons_succ]
                      refine takeL 8 (v := ?_) rfl (by kernel_rfl) (by kernel_rfl) (by kernel_rfl) (fun _ _ _ h => h) (by rfl) (by assumption) ?_ ?_
                      rotate_left
                      · (intro w hSw; (subst hSw); go_simp <;> with_reducible rfl)
                      try simp only [Act.put, List.setIfInBounds_toArray, List.set_cons_zero, List.set_cons_succ]
                      refine takeL 9 (v := ?_) rfl (by kernel_rfl) (by kernel_rfl) (by kernel_rfl) (fun _ _ _ h => h) (by rfl) (by assumption) ?_ ?_
                      rotate_left
                      · (intro w hSw; (subst hSw); go_simp <;> with_reducible rfl)
                      try simp only [Act.put, List.setIfInBounds_toArray, List.set_cons_zero, List.set_cons_succ]
                      refine takeL 10 (v := ?_) rfl (by kernel_rfl) (by kernel_rfl) (by kernel_rfl) (fun _ _ _ h => h) (by rfl) (by assumption) ?_ ?_
                      rotate_left
                      · (intro w hSw; (subst hSw); go_simp <;> with_reducible rfl)
                      try simp only [Act.put, List.setIfInBounds_toArray, List.set_cons_zero, List.set_cons_succ]
                      refine takeL 11 (v := ?_) rfl (by kernel_rfl) (by kernel_rfl) (by kernel_rfl) (fun _ _ _ h => h) (by rfl) (by assumption) ?_ ?_
                      rotate_left
                      · (intro w hSw; (subst hSw); go_simp <;> with_reducible rfl)
                      try simp only [Act.put, List.setIfInBounds_toArray, List.set_cons_zero, List.set_cons_succ]
                      refine takeL 12 (v := ?_) rfl (by kernel_rfl) (by kernel_rfl) (by kernel_rfl) (fun _ _ _ h => h) (by rfl) (by assumption) ?_ ?_
                      rotate_left
                      · (intro w hSw; (subst hSw); go_simp <;> with_reducible rfl)
                      try simp only [Act.put, List.setIfInBounds_toArray, List.set_cons_zero, List.set_cons_succ]
                      refine wpAnyH_done (by kernel_rfl) ?_ _
                      clear hHeld
                      go_wp2_with fail
                      go_roundw
                      case rel => exact ⟨k + 1, false, by omega, by go_num, rfl, HB, hB2.drew⟩
                      case measure => first | (simp [intOf]; done) | (simp [intOf]; omega)
                  · have HB : Hid (false = hasB (sFrom 0 S) (y1, y2, y3) (k + 1)) := Lib.hid (by rw [hst, decide_eq_false (fun q => q2 (by cases q; rfl))])
                    subst q1
                    have f1 : ((a2 : Int) == (y2 : Int)) = false := by rw [beq_eq_false_iff_ne]; omega
                    have f2 : (a2 == y2) = false := by rw [beq_eq_false_iff_ne]; omega
                    clear hst hy hbh hb q2
                    go_wp2_with fail
                    refine wp_region_held_drew (S := (fun w' => w' = wr.drew)) (by kernel_rfl) ?_ (fun hHeld => ?_)
                    · (try dsimp only)
                      (first | done | rfl)
                    refine takeL 0 (v := ?_) rfl (by kernel_rfl) (by kernel_rfl) (by kernel_rfl) (fun _ _ _ h => h) (by rfl) (by assumption) ?_ ?_
                    rotate_left
                    · (intro w hSw; (subst hSw); go_simp <;> with_reducible rfl)
                    try simp only [Act.put, List.setIfInBounds_toArray, List.set_cons_zero, List.set_cons_succ]
                    refine takeL 1 (v := ?_) rfl (by kernel_rfl) (by kernel_rfl) (by kernel_rfl) (fun _ _ _ h => h) (by rfl) (by assumption) ?_ ?_
                    rotate_left
                    · (intro w hSw; (subst hSw); go_simp <;> with_reducible rfl)
                    try simp only [Act.put, List.setIfInBounds_toArray, List.set_cons_zero, List.set_cons_succ]
                    refine takeL 2 (v := ?_) rfl (by kernel_rfl) (by kernel_rfl) (by kernel_rfl) (fun _ _ _ h => h) (by rfl) (by assumption) ?_ ?_
                    rotate_left
                    · (intro w hSw; (subst hSw); go_simp <;> with_reducible rfl)
                    try simp only [Act.put, List.setIfInBounds_toArray, List.set_cons_zero, List.set_cons_succ]
                    refine takeL 3 (v := ?_) rfl (by kernel_rfl) (by kernel_rfl) (by kernel_rfl) (fun _ _ _ h => h) (by rfl) (by assumption) ?_ ?_
                    rotate_left
                    · (intro w hSw; (subst hSw); go_simp <;> with_reducible rfl)
                    try simp only [Act.put, List.setIfInBounds_toArray, List.set_cons_zero, List.set_cons_succ]
                    refine takeL 4 (v := ?_) rfl (by kernel_rfl) (by kernel_rfl) (by kernel_rfl) (fun _ _ _ h => h) (by rfl) (by assumption) ?_ ?_
                    rotate_left
                    · (intro w hSw; (subst hSw); go_simp <;> with_reducible rfl)
                    try simp only [Act.put, List.setIfInBounds_toArray, List.set_cons_zero, List.set_cons_succ]
                    refine takeL 5 (v := ?_) rfl (by kernel_rfl) (by kernel_rfl) (by kernel_rfl) (fun _ _ _ h => h) (by rfl) (by assumption) ?_ ?_
                    rotate_left
                    · (intro w hSw; (subst hSw); go_simp <;> with_reducible rfl)
                    try simp only [Act.put, List.setIfInBounds_toArray, List.set_cons_zero, List.set_cons_succ]
                    refine takeL 6 (v := ?_) rfl (by kernel_rfl) (by kernel_rfl) (by kernel_rfl) (fun _ _ _ h => h) (by rfl) (by assumption) ?_ ?_
                    rotate_left
                    · (intro w hSw; (subst hSw); go_simp <;> with_reducible rfl)
                    try simp only [Act.put, List.setIfInBounds_toArray, List.set_cons_zero, List.set_cons_succ]
                    refine takeL 7 (v := ?_) rfl (by kernel_rfl) (by kernel_rfl) (by kernel_rfl) (fun _ _ _ h => h) (by rfl) (by assumption) ?_ ?_
                    rotate_left
                    · (intro w hSw; (subst hSw); go_simp <;> with_reducible rfl)
                    try simp only [Act.put, List.setIfInBounds_toArray, List.set_cons_zero, List.set_cons_succ]
                    refine takeL 8 (v := ?_) rfl (by kernel_rfl) (by kernel_rfl) (by kernel_rfl) (fun _ _ _ h => h) (by rfl) (by assumption) ?_ ?_
                    rotate_left
                    · (intro w hSw; (subst hSw); go_simp <;> with_reducible rfl)
                    try simp only [Act.put, List.setIfInBounds_toArray, List.set_cons_zero, List.set_cons_succ]
                    refine takeL 9 (v := ?_) rfl (by kernel_rfl) (by kernel_rfl) (by kernel_rfl) (fun _ _ _ h => h) (by rfl) (by assumption) ?_ ?_
                    rotate_left
                    · (intro w hSw; (subst hSw); go_simp <;> with_reducible rfl)
                    try simp only [Act.put, List.setIfInBounds_toArray, List.set_cons_zero, List.set_cons_succ]
                    refine takeL 10 (v := ?_) rfl (by kernel_rfl) (by kernel_rfl) (by kernel_rfl) (fun _ _ _ h => h) (by rfl) (by assumption) ?_ ?_
                    rotate_left
                    · (intro w hSw; (subst hSw); go_simp <;> with_reducible rfl)
                    try simp only [Act.put, List.setIfInBounds_toArray, List.set_cons_zero, List.set_cons_succ]
                    refine takeL 11 (v := ?_) rfl (by kernel_rfl) (by kernel_rfl) (by kernel_rfl) (fun _ _ _ h => h) (by rfl) (by assumption) ?_ ?_
                    rotate_left
                    · (intro w hSw; (subst hSw); go_simp <;> with_reducible rfl)
                    try simp only [Act.put, List.setIfInBounds_toArray, List.set_cons_zero, List.set_cons_succ]
                    refine takeL 12 (v := ?_) rfl (by kernel_rfl) (by kernel_rfl) (by kernel_rfl) (fun _ _ _ h => h) (by rfl) (by assumption) ?_ ?_
                    rotate_left
                    · (intro w hSw; (subst hSw); go_simp <;> with_reducible rfl)
                    try simp only [Act.put, List.setIfInBounds_toArray, List.set_cons_zero, List.set_cons_succ]
                    refine wpAnyH_done (by kernel_rfl) ?_ _
                    clear hHeld
                    go_wp2_with fail
                    go_roundw
                    case rel => exact ⟨k + 1, false, by omega, by go_num, rfl, HB, hB2.drew⟩
                    case measure => first | (simp [intOf]; done) | (simp [intOf]; omega)
                · have HB : Hid (false = hasB (sFrom 0 S) (y1, y2, y3) (k + 1)) := Lib.hid (by rw [hst, decide_eq_false (fun q => q1 (by cases q; rfl))])
                  have f1 : ((a1 : Int) == (y1 : Int)) = false := by rw [beq_eq_false_iff_ne]; omega
                  have f2 : (a1 == y1) = false := by rw [beq_eq_false_iff_ne]; omega
                  clear hst hy hbh hb q1
                  go_wp2_with fail
                  refine wp_region_held_drew (S := (fun w' => w' = wr.drew)) (by kernel_rfl) ?_ (fun hHeld => ?_)
                  · (try dsimp only)
                    (first | done | rfl)
                  refine takeL 0 (v := ?_) rfl (by kernel_rfl) (by kernel_rfl) (by kernel_rfl) (fun _ _ _ h => h) (by rfl) (by assumption) ?_ ?_
                  rotate_left
                  · (intro w hSw; (subst hSw); go_simp <;> with_reducible rfl)
                  try simp only [Act.put, List.setIfInBounds_toArray, List.set_cons_zero, List.set_cons_succ]
                  refine takeL 1 (v := ?_) rfl (by kernel_rfl) (by kernel_rfl) (by kernel_rfl) (fun _ _ _ h => h) (by rfl) (by assumption) ?_ ?_
                  rotate_left
                  · (intro w hSw; (subst hSw); go_simp <;> with_reducible rfl)
                  try simp only [Act.put, List.setIfInBounds_toArray, List.set_cons_zero, List.set_cons_succ]
                  refine takeL 2 (v := ?_) rfl (by kernel_rfl) (by kernel_rfl) (by kernel_rfl) (fun _ _ _ h => h) (by rfl) (by assumption) ?_ ?_
                  rotate_left
                  · (intro w hSw; (subst hSw); go_simp <;> with_reducible rfl)
                  try simp only [Act.put, List.setIfInBounds_toArray, List.set_cons_zero, List.set_cons_succ]
                  refine takeL 3 (v := ?_) rfl (by kernel_rfl) (by kernel_rfl) (by kernel_rfl) (fun _ _ _ h => h) (by rfl) (by assumption) ?_ ?_
                  rotate_left
                  · (intro w hSw; (subst hSw); go_simp <;> with_reducible rfl)
                  try simp only [Act.put, List.setIfInBounds_toArray, List.set_cons_zero, List.set_cons_succ]
                  refine takeL 4 (v := ?_) rfl (by kernel_rfl) (by kernel_rfl) (by kernel_rfl) (fun _ _ _ h => h) (by rfl) (by assumption) ?_ ?_
                  rotate_left
                  · (intro w hSw; (subst hSw); go_simp <;> with_reducible rfl)
                  try simp only [Act.put, List.setIfInBounds_toArray, List.set_cons_zero, List.set_cons_succ]
                  refine takeL 5 (v := ?_) rfl (by kernel_rfl) (by kernel_rfl) (by kernel_rfl) (fun _ _ _ h => h) (by rfl) (by assumption) ?_ ?_
                  rotate_left
                  · (intro w hSw; (subst hSw); go_simp <;> with_reducible rfl)
                  try simp only [Act.put, List.setIfInBounds_toArray, List.set_cons_zero, List.set_cons_succ]
                  refine takeL 6 (v := ?_) rfl (by kernel_rfl) (by kernel_rfl) (by kernel_rfl) (fun _ _ _ h => h) (by rfl) (by assumption) ?_ ?_
                  rotate_left
                  · (intro w hSw; (subst hSw); go_simp <;> with_reducible rfl)
                  try simp only [Act.put, List.setIfInBounds_toArray, List.set_cons_zero, List.set_cons_succ]
                  refine takeL 7 (v := ?_) rfl (by kernel_rfl) (by kernel_rfl) (by kernel_rfl) (fun _ _ _ h => h) (by rfl) (by assumption) ?_ ?_
                  rotate_left
                  · (intro w hSw; (subst hSw); go_simp <;> with_reducible rfl)
                  try simp only [Act.put, List.setIfInBounds_toArray, List.set_cons_zero, List.set_cons_succ]
                  refine takeL 8 (v := ?_) rfl (by kernel_rfl) (by kernel_rfl) (by kernel_rfl) (fun _ _ _ h => h) (by rfl) (by assumption) ?_ ?_
                  rotate_left
                  · (intro w hSw; (subst hSw); go_simp <;> with_reducible rfl)
                  try simp only [Act.put, List.setIfInBounds_toArray, List.set_cons_zero, List.set_cons_succ]
                  refine takeL 9 (v := ?_) rfl (by kernel_rfl) (by kernel_rfl) (by kernel_rfl) (fun _ _ _ h => h) (by rfl) (by assumption) ?_ ?_
                  rotate_left
                  · (intro w hSw; (subst hSw); go_simp <;> with_reducible rfl)
                  try simp only [Act.put, List.setIfInBounds_toArray, List.set_cons_zero, List.set_cons_succ]
                  refine takeL 10 (v := ?_) rfl (by kernel_rfl) (by kernel_rfl) (by kernel_rfl) (fun _ _ _ h => h) (by rfl) (by assumption) ?_ ?_
                  rotate_left
                  · (intro w hSw; (subst hSw); go_simp <;> with_reducible rfl)
                  try simp only [Act.put, List.setIfInBounds_toArray, List.set_cons_zero, List.set_cons_succ]
                  refine takeL 11 (v := ?_) rfl (by kernel_rfl) (by kernel_rfl) (by kernel_rfl) (fun _ _ _ h => h) (by rfl) (by assumption) ?_ ?_
                  rotate_left
                  · (intro w hSw; (subst hSw); go_simp <;> with_reducible rfl)
                  try simp only [Act.put, List.setIfInBounds_toArray, List.set_cons_zero, List.set_cons_succ]
                  refine takeL 12 (v := ?_) rfl (by kernel_rfl) (by kernel_rfl) (by kernel_rfl) (fun _ _ _ h => h) (by rfl) (by assumption) ?_ ?_
                  rotate_left
                  · (intro w hSw; (subst hSw); go_simp <;> with_reducible rfl)
                  try simp only [Act.put, List.setIfInBounds_toArray, List.set_cons_zero, List.set_cons_succ]
                  refine wpAnyH_done (by kernel_rfl) ?_ _
                  clear hHeld
                  go_wp2_with fail
                  go_roundw
                  case rel => exact ⟨k + 1, false, by omega, by go_num, rfl, HB, hB2.drew⟩
                  case measure => first | (simp [intOf]; done) | (simp [intOf]; omega)
            · obtain rfl : k = wk := by omega
              have hbt : b = true := by rw [hb.out]; exact hha.out _ hmm2
              subst hbt
              clear hb hkl
              go_wp2_with fail
              go_roundw
              case rel => exact ⟨j + 1, by omega, by go_num, hB2⟩
              case measure => first | (simp [intOf]; done) | (simp [intOf]; omega)
        · obtain rfl : j = wn := by omega
          have e9 := e7.out
          have e8 := e6.out
          clear hjl
          go_wp2_with fail
          go_ret
          exact ⟨rfl, hbel.trans (hB1.mono hbel.size)⟩
end Go.Proofs.YtnjifmecaeagaaaDoor
