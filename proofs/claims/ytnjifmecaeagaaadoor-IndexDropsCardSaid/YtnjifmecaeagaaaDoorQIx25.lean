/-
  The laws of package index: IndexDrops.
-/
import Derived.Test.YtnjifmecaeagaaaDoorQF
import Derived.Test.YtnjifmecaeagaaaDoorQE
set_option linter.unusedVariables false
set_option linter.unusedSimpArgs false
namespace Go.Proofs.YtnjifmecaeagaaaDoor
open Go.Lib Go.RowKit Go.ChangeShapes Go.WideShapes Go.Deep
instance : Inhabited Plc := ⟨⟨0, 0, 0, 0, false⟩⟩
def ePl (p : Plc) : List Value := [.int .i64 (p.ch : Nat), .int .i64 (p.ix : Nat), .int .i64 p.cl, .int .i64 (p.mn : Nat), .bool p.fr]
theorem ePl_len (x : Plc) : (ePl x).length = 5 := rfl
theorem infoPl : (Tryd.prog.info? 62).map (fun i => (i.zero, i.size, i.bytes)) = some (some (.agg #[.int .i64 0, .int .i64 0, .int .i64 0, .int .i64 0, .bool false]), 5, 40) := by kernel_rfl
theorem plT : ElT Tryd.prog 60 62 5 40 ePl :=
  ⟨Tryd.underlying60, by obtain ⟨i0, h1, h2, h3, h4⟩ := info_parts infoPl; exact ⟨i0, _, h1, h2, h3, h4, rfl⟩, ePl_len, fun x u hu => by simp only [ePl, List.mem_cons, List.not_mem_nil, or_false] at hu; rcases hu with rfl | rfl | rfl | rfl | rfl <;> rfl, by decide, by decide⟩
abbrev PlKO (w : World) (base : Nat) (v : Value) (l : List Plc) : Prop := OwnE 62 5 ePl w base v l
theorem ePl_new (w : World) (p : Plc) (t : TypeId) : EL 5 ePl (w.alloc (.cells #[.int .i64 (p.ch : Nat), .int .i64 (p.ix : Nat), .int .i64 p.cl, .int .i64 (p.mn : Nat), .bool p.fr] t)) (.slice (some ⟨w.heap.size, 0, none⟩) 1 1) [p] := by
  refine ⟨_, _, rfl, fun _ => ⟨w.heap.size, 0, rfl, by simp, by simp, fun i hi j hj => ?_⟩⟩
  have hi0 : i = 0 := by simp at hi; omega
  subst hi0
  have h5 : j = 0 ∨ j = 1 ∨ j = 2 ∨ j = 3 ∨ j = 4 := by omega
  rcases h5 with rfl | rfl | rfl | rfl | rfl <;> simp [go_sem, ePl]
theorem PlKL.form {w : World} {v : Value} {l : List Plc} {n : Nat} (h : EL 5 ePl w v l) (hn : l.length = n) : ∃ A cap, v = .slice A n cap ∧
    ∀ w1 i, Below w.heap.size w w1 → i < n → ∃ g off, A = some ⟨g, off, none⟩ ∧ n ≤ cap ∧ g < w1.heap.size ∧ w1.cell? ⟨g, off + i * 5, none⟩ = some (.int .i64 ((l.getD i default).ch : Nat)) ∧ w1.cell? ⟨g, off + i * 5 + 1, none⟩ = some (.int .i64 ((l.getD i default).ix : Nat)) ∧ w1.cell? ⟨g, off + i * 5 + 2, none⟩ = some (.int .i64 (l.getD i default).cl) ∧ w1.cell? ⟨g, off + i * 5 + 3, none⟩ = some (.int .i64 ((l.getD i default).mn : Nat)) ∧ w1.cell? ⟨g, off + i * 5 + 4, none⟩ = some (.bool (l.getD i default).fr) := by
  obtain ⟨A, cap, hv, h⟩ := EL.form h hn
  refine ⟨A, cap, hv, fun w1 i hb hi => ?_⟩
  obtain ⟨g, off, hA, h1, h2, h3, hc⟩ := h w1 i hb hi
  exact ⟨g, off, hA, h1, h3, hc 0 (by omega), hc 1 (by omega), hc 2 (by omega), hc 3 (by omega), hc 4 (by omega)⟩
theorem Sess.other {F : Nat → Prop} {w0 w w1 : World} {B n : Nat} {v : Value} {S : List St} (h : Sess w0 w B v S) (hw : Lw w0) (hc : Chg F w w1) (hF : ∀ k, F k → n ≤ k) (hn : w0.heap.size ≤ n) (hB : B < n) (hv : ∀ k, v.ownBlock = some k → k < n) : Sess w0 w1 B v S := by
  have hb : Below w0.heap.size w w1 := hc.below (fun k q => Nat.le_trans hn (hF k q)) h.bel.size
  exact ⟨h.ix.chg hc (fun q => by have := hF _ q; omega) (fun k q f => by have := hF _ f; have := hv k q; omega), h.ok, h.len, hw.keep (h.bel.trans hb), h.bel.trans hb⟩
/-- the places, begun elsewhere -/
def rotL (R : List Plc) (b : Nat) : List Plc := (List.range R.length).map fun i => R.getD ((i + b) % R.length) default
theorem rotL_len (R : List Plc) (b : Nat) : (rotL R b).length = R.length := by simp [rotL]
theorem rotL_at (R : List Plc) (b : Nat) {i : Nat} (h : i < R.length) : (rotL R b).getD i default = R.getD ((i + b) % R.length) default := by
  unfold rotL
  rw [List.getD_eq_getElem?_getD, List.getElem?_map, List.getElem?_range h]; rfl
theorem mod_ne {n b i j : Nat} (hi : i < n) (hj : j < n) (hij : i < j) : ¬ (i + b) % n = (j + b) % n := fun e => by
  have h1 := Nat.div_add_mod (i + b) n
  have h2 := Nat.div_add_mod (j + b) n
  rw [← e] at h2
  have h3 : n * ((j + b) / n) - n * ((i + b) / n) = j - i := by omega
  rw [← Nat.mul_sub] at h3
  have h4 : 0 < (j + b) / n - (i + b) / n := by
    rcases Nat.eq_zero_or_pos ((j + b) / n - (i + b) / n) with q | q
    · rw [q, Nat.mul_zero] at h3; omega
    · exact q
  have := Nat.le_mul_of_pos_right n h4
  omega
theorem pair_at {R : List Plc} (h : R.Pairwise (fun p q => ¬ (p.ch = q.ch ∧ p.ix = q.ix))) {i j : Nat} (hi : i < R.length) (hj : j < R.length) (hij : ¬ i = j) : ¬ ((R.getD i default).ch = (R.getD j default).ch ∧ (R.getD i default).ix = (R.getD j default).ix) := by
  rw [List.pairwise_iff_getElem] at h
  rw [List.getD_eq_getElem?_getD, List.getD_eq_getElem?_getD, List.getElem?_eq_getElem hi, List.getElem?_eq_getElem hj]
  rcases Nat.lt_or_gt_of_ne hij with q | q
  · exact h i j hi hj q
  · intro e; exact h j i hj hi q ⟨e.1.symm, e.2.symm⟩
theorem Inv.rot {S0 S : List St} {R : List Plc} (h : Inv S0 S R) (b : Nat) : Inv S0 S (rotL R b) := by
  refine ⟨h.ok, h.len, h.blks, h.keep, h.had, fun p hp => ?_, fun k j q => ?_, ?_⟩
  · unfold rotL at hp
    obtain ⟨i, hi, rfl⟩ := List.mem_map.1 hp
    have hi := List.mem_range.1 hi
    exact h.tk _ (getD_mem default (Nat.mod_lt _ (by omega)))
  · obtain ⟨p, hp, q1⟩ := h.only k j q
    refine ⟨p, ?_, q1⟩
    obtain ⟨m, hm, rfl⟩ := List.getElem_of_mem hp
    unfold rotL
    have hb : b % R.length < R.length := Nat.mod_lt _ (by omega)
    refine List.mem_map.2 ⟨(m + (R.length - b % R.length)) % R.length, List.mem_range.2 (Nat.mod_lt _ (by omega)), ?_⟩
    have e : ((m + (R.length - b % R.length)) % R.length + b) % R.length = m := by
      rw [Nat.add_mod _ b, Nat.mod_mod]
      generalize b % R.length = d at *
      by_cases y : m < d
      · rw [Nat.mod_eq_of_lt (show m + (R.length - d) < R.length by omega), show m + (R.length - d) + d = m + R.length by omega, Nat.add_mod_right, Nat.mod_eq_of_lt hm]
      · rw [show m + (R.length - d) = (m - d) + R.length by omega, Nat.add_mod_right, Nat.mod_eq_of_lt (show m - d < R.length by omega), show m - d + d = m by omega, Nat.mod_eq_of_lt hm]
    rw [e, List.getD_eq_getElem?_getD, List.getElem?_eq_getElem hm]; rfl
  · rw [List.pairwise_iff_getElem]
    intro i j hi hj hij
    rw [rotL_len] at hi hj
    have e1 := rotL_at R b hi
    have e2 := rotL_at R b hj
    rw [List.getD_eq_getElem?_getD, List.getElem?_eq_getElem (by rw [rotL_len]; exact hi)] at e1
    rw [List.getD_eq_getElem?_getD, List.getElem?_eq_getElem (by rw [rotL_len]; exact hj)] at e2
    simp only [Option.getD_some] at e1 e2
    rw [e1, e2]
    exact pair_at h.apart (Nat.mod_lt _ (by omega)) (Nat.mod_lt _ (by omega)) (mod_ne hi hj hij)
theorem drop_getD {α : Type} (l : List α) (d : α) {i : Nat} (h : i < l.length) : l.drop i = l.getD i d :: l.drop (i + 1) := by
  rw [List.drop_eq_getElem_cons h, List.getD_eq_getElem?_getD, List.getElem?_eq_getElem h]; rfl
set_option maxRecDepth 100000 in
set_option maxHeartbeats 4000000 in
theorem indexDrops (v : Value) (l : List Nat) (u : Value) (z : List Nat) (by1 : Nat) (w : World) (hw : Lw w) (hH : HL l) (hv : KL .u16 w v l) (hG : HL z) (hu : KL .u16 w u z) (hby : by1 < 256) :
    Calls Tryd.prog 13 #[v, u, .int .u8 (by1 : Nat)] w fun e w' => e = .returned (.bool true) ∧ Below w.heap.size w w' := by
  have hAw := awake17 w hw
  obtain ⟨nn, hnn⟩ : ∃ n, l.length = n := ⟨_, rfl⟩
  obtain ⟨A, cap, rfl, _⟩ := hv.form hnn
  obtain ⟨mm, hmm⟩ : ∃ n, z.length = n := ⟨_, rfl⟩
  obtain ⟨Az, capz, rfl, hZ⟩ := hu.form hmm
  by_cases h40 : 40 < nn
  · have h40' : (40 : Int) < (nn : Int) := by omega
    clear hv hH hw hu hG hZ
    replace hnn := Lib.hid hnn
    replace hmm := Lib.hid hmm
    go_enter Tryd.func13, Tryd.ntmps13
    go_wp2_with fail
    refine hAw.mono ?_
    rintro e w1 ⟨rfl, hb1⟩
    go_wp2_with fail
    go_ret
    exact ⟨rfl, hb1⟩
  have h40' : ¬ (40 : Int) < (nn : Int) := by omega
  by_cases hm40 : 40 < mm
  · have hm40' : (40 : Int) < (mm : Int) := by omega
    clear hv hH hw hu hG hZ
    replace hnn := Lib.hid hnn
    replace hmm := Lib.hid hmm
    go_enter Tryd.func13, Tryd.ntmps13
    go_wp2_with fail
    refine hAw.mono ?_
    rintro e w1 ⟨rfl, hb1⟩
    go_wp2_with fail
    go_ret
    exact ⟨rfl, hb1⟩
  have hm40' : ¬ (40 : Int) < (mm : Int) := by omega
  have hZx := Lib.hid (fun k (hk : k < mm) => show z.getD k 0 < 65536 from by
    rw [List.getD_eq_getElem?_getD, List.getElem?_eq_getElem (by omega)]; exact hG _ (List.getElem_mem _))
  replace hZ := Lib.hid hZ
  replace hmm := Lib.hid hmm
  clear hu hG
  have hM1 := Lib.hid (fun w1 (hb : Below w.heap.size w w1) => made_any _ l 20 w1 (hw.keep hb) hH (hv.keep hb) (by omega) (by omega))
  have hwh := Lib.hid hw
  replace hnn := Lib.hid hnn
  clear hv hw hH h40
  go_enter Tryd.func13, Tryd.ntmps13
  go_wp2_with fail
  refine hAw.mono ?_
  rintro e w1 ⟨rfl, hb1⟩
  have hMa := hM1.out _ hb1
  rw [show (((20 : Nat) : Int)) = 20 from rfl] at hMa
  clear hAw hM1
  go_wp2_with fail
  refine hMa.mono ?_
  rintro e w2 ⟨v2, t, rfl, ho2, hrt, htl, hb2⟩
  have hB2 := hb1.trans (hb2.mono hb1.size)
  have hk2 := ho2.kl
  obtain ⟨tn, htn⟩ : ∃ k, t.length = k := ⟨_, rfl⟩
  obtain ⟨At, ct, rfl⟩ := ho2.sl htn
  have hNw := new_any _ t w2 (hwh.out.keep hB2) hk2 (rightT_WL hrt) (by omega)
  clear ho2 hMa hb1 hb2
  go_wp2_with fail
  refine hNw.mono ?_
  rintro e w3 ⟨hP, hb3⟩
  obtain ⟨B, vx, rfl, hS3⟩ := Sess.of_new hP hb3 hB2 hwh.out hrt (by omega)
  have hk3 := hk2.keep hb3
  clear hNw hP hk2
  have hl0 : (t.map stN).length ≤ 20 := by rw [List.length_map]; exact htl
  have hsf := sFrom_new hrt
  have hI0 := Inv.first hS3.ok (new_noTk t)
  have hX := hS3.rows
  clear htn
  go_wp2_with fail
  refine hX.mono ?_
  rintro e w4 ⟨⟨v4, rfl, ho4⟩, hb4⟩
  have hS4 := hS3.keep hb4
  have hk4 := hk3.keep hb4
  have hBk := blocksT_any _ t w4 hS4.lw hk4 (rightT_WL hrt) (by omega)
  have hne4 := Lib.hid (fun k (q : v4.ownBlock = some k) => hS3.notOwn (D := k) (ho4.lt k q).1)
  clear hX
  go_wp2_with fail
  refine hBk.mono ?_
  rintro e w5 ⟨v5, rfl, hoB, hb5⟩
  have hS5 := hS4.keep hb5
  replace ho4 := ho4.keep hb5
  have hneB := Lib.hid (fun k (q : v5.ownBlock = some k) => hS4.notOwn (D := k) (hoB.lt k q).1)
  have hwl := Lib.hid (blksT_len t)
  have hC5 := Chg.refl (fun k => vx.ownBlock = some k) w5
  have hB5 := hS5.bel.size
  have hxb := Lib.hid (show B < w5.heap.size ∧ ∀ k, vx.ownBlock = some k → k < w5.heap.size from ⟨hS5.ix.box.lt, fun k q => (hS5.ix.row.lt k q).2⟩)
  have hs0 := hS3.ok
  have hsn := new_noTk t
  have hI5 := hI0
  generalize t.map stN = S0 at *
  replace hsf := Lib.hid hsf
  have hl0L : PlKO w5 w5.heap.size (.slice none 0 0) [] := OwnE.nil _ _ _ _ _
  have htl1 : t.length ≤ 20 := htl
  generalize hbt : blksT t = was at *
  clear htl hb3 hB2 hb4 hb5 hBk hS3 hS4 hrt hk3 hk4 hbt hI0
  go_wp2_with fail
  go_loopw [12, 13] (fun lv iv wr => ∃ (i : Nat) (R : List Plc) (S : List St), i ≤ mm ∧ R.length ≤ i ∧ iv = .int .i64 i ∧ Sess w wr B vx S ∧ S.length ≤ 20 ∧ Inv S0 S R ∧ PlKO wr w5.heap.size lv R ∧ Chg (fun k => vx.ownBlock = some k) w5 wr) (fun _ iv _ => mm + 1 - (intOf iv).toNat)
  case atStart => exact ⟨0, [], S0, Nat.zero_le _, Nat.le_refl _, rfl, hS5, hl0, hI5, hl0L, hC5⟩
  case round =>
    obtain ⟨i, R, S, hi, hRi, rfl, hS, hl20, hI, hoR, hCw⟩ := hrel
    clear hS5 hI5 hl0L hC5 hl0
    obtain ⟨rn, hrn⟩ : ∃ k, R.length = k := ⟨_, rfl⟩
    obtain ⟨AR, cR, rfl⟩ := hoR.sl hrn
    by_cases hlt : i < mm
    · have hlt' : (i : Int) < (mm : Int) := by omega
      have hbw : Below w.heap.size w wr := hS.bel
      obtain ⟨gz, oz, rfl, hcz, _, z0⟩ := hZ.out wr i hbw hlt
      have hx9 := hZx.out i hlt
      generalize z.getD i 0 = x at *
      obtain ⟨q, hq⟩ : ∃ q, x % 200 = q := ⟨_, rfl⟩
      have hq9 : q ≤ 200 := by omega
      have m1 : ((x : Nat) : Int) % 200 = (q : Int) := by omega
      have m2 : (((x : Nat) : Int)).tmod 200 = (q : Int) := by rw [Int.tmod_eq_emod_of_nonneg (by omega)]; exact m1
      replace hq := Lib.hid hq
      have hX := hS.take hwh.out q (by omega)
      clear hbw
      go_wp2_with fail
      clear m1 m2 z0
      refine hX.mono ?_
      rintro e w6 ⟨S1, r, hTk, he, hS6, hAt, hsf1, hC6⟩
      have hC6w := hCw.trans hC6 (fun j q => .inl q)
      have hl1 : S1.length ≤ 20 := by rw [len_takeR hTk]; exact hl20
      have hrne : ∀ k, Value.ownBlock (.slice AR rn cR) = some k → ¬ vx.ownBlock = some k := fun k q1 q2 => by
        have := (hoR.lt k q1).1
        have := hxb.out.2 k q2
        omega
      have hoR6 := hoR.chg hC6 hrne
      clear hX hCw hC6 hoR hrne
      cases r with
      | none =>
        replace he : e = .returned (.tuple #[plV 0 0 0 0 false, .int .i64 2]) := he
        subst he
        obtain rfl : S1 = S := take_none hTk
        have hA := (Below.refl w6.heap.size w6).alloc (Nat.le_refl _) (.cells #[.int .i64 0, .int .i64 0, .int .i64 0, .int .i64 0, .bool false] 62)
        replace hS6 := hS6.keep hA
        replace hoR6 := hoR6.keep hA
        replace hC6w := hC6w.trans (Chg.of_below (fun k => vx.ownBlock = some k) hA) (fun j q => .inl q)
        clear hTk hsf1 hAt hS
        have hX := hS6.table
        obtain ⟨hWt, hLt⟩ : WL (tableS S1) ∧ (tableS S1).length ≤ 1000 := (by
                  refine ⟨fun y hy => ?_, by rw [table_len]; omega⟩
                  have := okN_bd (List.all_eq_true.1 (table_ok hS6.ok) y hy)
                  omega)
        have hbt := (blks_table hS6.ok).trans (hI.blks.trans hsf.out)
        go_wp2_with fail
        refine hX.mono ?_
        rintro e wa ⟨⟨va, rfl, hoa⟩, hba⟩
        have hSa := hS6.keep hba
        have hCa := hC6w.trans (Chg.of_below (fun k => vx.ownBlock = some k) hba) (fun j q => .inl q)
        have hX2 := blocksT_any _ (tableS S1) wa hSa.lw hoa.kl hWt (by omega)
        rw [hbt] at hX2
        clear hX hoa
        go_wp2_with fail
        refine hX2.mono ?_
        rintro e wb ⟨vb, rfl, hob, hbb⟩
        have hSb := hSa.keep hbb
        have hCb := hCa.trans (Chg.of_below (fun k => vx.ownBlock = some k) hbb) (fun j q => .inl q)
        have hkb := (hoB.chg hCb hneB.out).el eB_len
        have hX := sameBl _ _ was was wb (by have := hwl.out; omega) (hob.el eB_len) hkb
        rw [decide_eq_true rfl] at hX
        have hbab := hba.trans (hbb.mono hba.size)
        clear hX2 hbb hba hSa hCa hob hkb hWt hLt hbt
        go_wp2_with fail
        refine hX.mono ?_
        rintro e wc ⟨rfl, hbc⟩
        have hSc := hSb.keep hbc
        have hCc := hCb.trans (Chg.of_below (fun k => vx.ownBlock = some k) hbc) (fun j q => .inl q)
        have hbx := hbab.trans (hbc.mono hbab.size)
        clear hX hSb hCb hbab hbc
        have hoR9 : PlKO wc w5.heap.size (.slice AR rn cR) R := hoR6.keep hbx
        go_wp2_with fail
        go_roundw
        case rel => exact ⟨i + 1, R, S1, by omega, by omega, by go_num, hSc, hl1, hI, hoR9, hCc⟩
        case measure => first | (simp [intOf]; done) | (simp [intOf]; omega)
      | some p =>
        replace he : e = .returned (.tuple #[plV (p.ch : Nat) (p.ix : Nat) p.cl (p.mn : Nat) p.fr, .int .i64 0]) := he
        subst he
        have hI1 := hI.take hs0 hsn hTk (fun c h => ofN_lt h) (chN_bd (by omega)).1 (chN_bd (by omega)).2
        have pa := PlAt.new w6 p.ch p.ix p.cl p.mn p.fr
        have hA := (Below.refl w6.heap.size w6).alloc (Nat.le_refl _) (.cells #[.int .i64 (p.ch : Nat), .int .i64 (p.ix : Nat), .int .i64 p.cl, .int .i64 (p.mn : Nat), .bool p.fr] 62)
        replace hS6 := hS6.keep hA
        replace hoR6 := hoR6.keep hA
        replace hC6w := hC6w.trans (Chg.of_below (fun k => vx.ownBlock = some k) hA) (fun j q => .inl q)
        have hz6 := hC6w.size
        obtain ⟨c0, c1, c2, c3, c4⟩ := pa.cells
        obtain ⟨v', w9, hrun, ho, hg, hl2, _⟩ := appE plT (hoR6.alloc (.cells #[.int .i64 (p.ch : Nat), .int .i64 (p.ix : Nat), .int .i64 p.cl, .int .i64 (p.mn : Nat), .bool p.fr] (62 : Nat))) (ePl_new (w6.alloc (.cells #[.int .i64 (p.ch : Nat), .int .i64 (p.ix : Nat), .int .i64 p.cl, .int .i64 (p.mn : Nat), .bool p.fr] (62 : Nat))) p (62 : Nat)) (by simp at hz6 ⊢; omega) (by omega) (by simp)
        have hlen1 : (R ++ [p]).length = rn + 1 := by rw [List.length_append, List.length_singleton, hrn]
        obtain ⟨Ag, cg, rfl⟩ := ho.sl hlen1
        have hA2 := (Below.refl (w6.alloc (.cells #[.int .i64 (p.ch : Nat), .int .i64 (p.ix : Nat), .int .i64 p.cl, .int .i64 (p.mn : Nat), .bool p.fr] (62 : Nat))).heap.size (w6.alloc (.cells #[.int .i64 (p.ch : Nat), .int .i64 (p.ix : Nat), .int .i64 p.cl, .int .i64 (p.mn : Nat), .bool p.fr] (62 : Nat)))).alloc (Nat.le_refl _) (.cells #[.int .i64 (p.ch : Nat), .int .i64 (p.ix : Nat), .int .i64 p.cl, .int .i64 (p.mn : Nat), .bool p.fr] (62 : Nat))
        have hCg : Chg (fun k => w5.heap.size ≤ k) (w6.alloc (.cells #[.int .i64 (p.ch : Nat), .int .i64 (p.ix : Nat), .int .i64 p.cl, .int .i64 (p.mn : Nat), .bool p.fr] (62 : Nat))) w9 := (Chg.of_below (fun k => w5.heap.size ≤ k) hA2).trans (Chg.of_grown (S := fun k => w5.heap.size ≤ k) hg (fun k q => .inl (hoR6.lt k q).1)) (fun j q => .inl q)
        have hS9 := hS6.other hwh.out hCg (fun k q => q) hB5 hxb.out.1 hxb.out.2
        have hC9 := hC6w.trans hCg (fun j q => .inr q)
        have hRn1 : (R ++ [p]).length ≤ i + 1 := by rw [hlen1]; omega
        simp only [World.size_alloc] at hrun
        clear hTk hsf1 hAt hS hA hA2 hCg hg hC6w hS6 hoR6 hI
        go_wp2_with (at_builtin; refine wpList_append_run rfl _ _ 60 rfl _ _ _ rfl rfl hrun ?_)
        clear c0 c1 c2 c3 c4 hrun pa
        have hX := hS9.table
        obtain ⟨hWt, hLt⟩ : WL (tableS S1) ∧ (tableS S1).length ≤ 1000 := (by
                  refine ⟨fun y hy => ?_, by rw [table_len]; omega⟩
                  have := okN_bd (List.all_eq_true.1 (table_ok hS9.ok) y hy)
                  omega)
        have hbt := (blks_table hS9.ok).trans (hI1.blks.trans hsf.out)
        go_wp2_with fail
        refine hX.mono ?_
        rintro e wa ⟨⟨va, rfl, hoa⟩, hba⟩
        have hSa := hS9.keep hba
        have hCa := hC9.trans (Chg.of_below (fun k => vx.ownBlock = some k) hba) (fun j q => .inl q)
        have hX2 := blocksT_any _ (tableS S1) wa hSa.lw hoa.kl hWt (by omega)
        rw [hbt] at hX2
        clear hX hoa
        go_wp2_with fail
        refine hX2.mono ?_
        rintro e wb ⟨vb, rfl, hob, hbb⟩
        have hSb := hSa.keep hbb
        have hCb := hCa.trans (Chg.of_below (fun k => vx.ownBlock = some k) hbb) (fun j q => .inl q)
        have hkb := (hoB.chg hCb hneB.out).el eB_len
        have hX := sameBl _ _ was was wb (by have := hwl.out; omega) (hob.el eB_len) hkb
        rw [decide_eq_true rfl] at hX
        have hbab := hba.trans (hbb.mono hba.size)
        clear hX2 hbb hba hSa hCa hob hkb hWt hLt hbt
        go_wp2_with fail
        refine hX.mono ?_
        rintro e wc ⟨rfl, hbc⟩
        have hSc := hSb.keep hbc
        have hCc := hCb.trans (Chg.of_below (fun k => vx.ownBlock = some k) hbc) (fun j q => .inl q)
        have hbx := hbab.trans (hbc.mono hbab.size)
        clear hX hSb hCb hbab hbc
        have hoR9 : PlKO wc w5.heap.size (.slice Ag (rn + 1) cg) (R ++ [p]) := ho.keep hbx
        go_wp2_with fail
        go_roundw
        case rel => exact ⟨i + 1, R ++ [p], S1, by omega, hRn1, by go_num, hSc, hl1, hI1, hoR9, hCc⟩
        case measure => first | (simp [intOf]; done) | (simp [intOf]; omega)
    · obtain rfl : i = mm := by omega
      have hIr := hI.rot by1
      have hrne : ∀ k, Value.ownBlock (.slice AR rn cR) = some k → ¬ vx.ownBlock = some k := fun k q1 q2 => by
        have := (hoR.lt k q1).1
        have := hxb.out.2 k q2
        omega
      replace hrne := Lib.hid hrne
      have hrn9 : rn ≤ 40 := by omega
      have hdr := Lib.hid (fun k (hk : k < rn) => show (rotL R by1).drop k = R.getD ((k + by1) % rn) default :: (rotL R by1).drop (k + 1) from by
        rw [drop_getD _ default (by rw [rotL_len]; omega), rotL_at R by1 (by omega), hrn])
      have hde := Lib.hid (show (rotL R by1).drop rn = [] from List.drop_eq_nil_of_le (by rw [rotL_len]; omega))
      obtain ⟨wz, rfl⟩ : ∃ x, x = wr := ⟨_, rfl⟩
      have hCz := Chg.refl (fun k => vx.ownBlock = some k) wz
      replace hrn := Lib.hid hrn
      have hI0 : Inv S0 S ((rotL R by1).drop 0) := hIr
      clear hlt hRi hI hIr
      go_wp2_with fail
      go_loopw [16] (fun iv wr => ∃ (j : Nat) (S : List St), j ≤ rn ∧ iv = .int .i64 j ∧ Sess w wr B vx S ∧ S.length ≤ 20 ∧ Inv S0 S ((rotL R by1).drop j) ∧ Chg (fun k => vx.ownBlock = some k) wz wr) (fun iv _ => rn + 1 - (intOf iv).toNat)
      case atStart => exact ⟨0, S, Nat.zero_le _, rfl, hS, hl20, hI0, hCz⟩
      case round =>
        clear hS hl20 hI0 hCz
        obtain ⟨j, S, hj, rfl, hS, hl20, hI, hC⟩ := hrel
        by_cases hjl : j < rn
        · have hjl' : (j : Int) < (rn : Int) := by omega
          rw [hdr.out j hjl] at hI
          obtain ⟨m, hm⟩ : ∃ m, (j + by1) % rn = m := ⟨_, rfl⟩
          have hmr : m < rn := by rw [← hm]; exact Nat.mod_lt _ (by omega)
          have hmi : ((j : Int) + (by1 : Int)) % (rn : Int) = (m : Int) := by rw [← hm]; simp
          have hmt : ((j : Int) + (by1 : Int)).tmod (rn : Int) = (m : Int) := by rw [Int.tmod_eq_emod_of_nonneg (by omega)]; exact hmi
          rw [hm] at hI
          obtain ⟨AR2, cR2, he, hCl⟩ := PlKL.form ((hoR.chg hC hrne.out).el ePl_len) hrn.out
          simp only [Value.slice.injEq, true_and] at he
          obtain ⟨rfl, rfl⟩ := he
          obtain ⟨gl, ol, hAe, hcap, _, c0, c1, c2, c3, c4⟩ := hCl wr m (Below.refl _ _) hmr
          subst hAe
          generalize R.getD m default = p at *
          have hta := hI.tk p (List.mem_cons_self ..)
          obtain ⟨_, hI2⟩ := hI.drop hs0 hsn
          have hDo := Lib.hid (drop_ok hI.ok hta)
          have z1 : ¬ rn = 0 := by omega
          have z2 : ((rn : Int) == 0) = false := by rw [beq_eq_false_iff_ne]; omega
          have z3 : ¬ (rn : Int) = 0 := by omega
          have z4 : IntKind.i64.wrap ((j : Int) + (by1 : Int)) = (j : Int) + (by1 : Int) := by rw [IntKind.wrap_i64]; omega
          have z5 : (m : Int) < (rn : Int) := by omega
          have pa := PlAt.new wr p.ch p.ix p.cl p.mn p.fr
          have hnD := hS.notOwn (Nat.le_refl _)
          have hA := (Below.refl wr.heap.size wr).alloc (Nat.le_refl _) (.cells #[.int .i64 (p.ch : Nat), .int .i64 (p.ix : Nat), .int .i64 p.cl, .int .i64 (p.mn : Nat), .bool p.fr] 62)
          replace hS := hS.keep hA
          replace hC := hC.trans (Chg.of_below (fun k => vx.ownBlock = some k) hA) (fun j q => .inl q)
          obtain ⟨d0, d1, d2, d3, d4⟩ := pa.cells
          have hX : Calls Tryd.prog 41 #[.pointer (some ⟨B, 0, none⟩), plV (p.ch : Nat) (p.ix : Nat) p.cl (p.mn : Nat) p.fr] _ _ := hS.dropOk hwh.out hta
          replace hm := Lib.hid hm
          clear hA hta hI hCl
          go_wp2_with fail
          clear hmi hmt z1 z2 z3 z4 c0 c1 c2 c3 c4
          generalize wr.heap.size = D at *
          refine hX.mono ?_
          rintro e w8 ⟨rfl, hS8, hC8⟩
          replace pa := pa.chg hC8 hnD
          replace hC := hC.trans hC8 (fun j q => .inl q)
          have hX2 : Calls Tryd.prog 41 #[.pointer (some ⟨B, 0, none⟩), plV (p.ch : Nat) (p.ix : Nat) p.cl (p.mn : Nat) p.fr] _ _ := hS8.dropNo hwh.out hDo.out.noDrop
          clear hX hS hC8 d0 d1 d2 d3 d4
          obtain ⟨d0, d1, d2, d3, d4⟩ := pa.cells
          go_wp2_with fail
          refine hX2.mono ?_
          rintro e w9 ⟨rfl, hS9, hC9⟩
          replace pa := pa.chg hC9 hnD
          replace hC := hC.trans hC9 (fun j q => .inl q)
          have hX : Calls Tryd.prog 43 #[.pointer (some ⟨B, 0, none⟩), plV (p.ch : Nat) (p.ix : Nat) p.cl (p.mn : Nat) p.fr] _ _ := hS9.keepNo hwh.out hDo.out.noKeep
          clear hX2 hS8 hC9 d0 d1 d2 d3 d4
          obtain ⟨d0, d1, d2, d3, d4⟩ := pa.cells
          go_wp2_with fail
          refine hX.mono ?_
          rintro e w10 ⟨rfl, hS10, hC10⟩
          replace hC := hC.trans hC10 (fun j q => .inl q)
          have hl2 : (dropS S p.ch p.ix p.cl p.mn).2.length ≤ 20 := by rw [hDo.out.len]; exact hl20
          clear hX hS9 hC10 d0 d1 d2 d3 d4 pa
          go_wp2_with fail
          go_roundw
          case rel => exact ⟨j + 1, _, by omega, by go_num, hS10, hl2, hI2, hC⟩
          case measure => first | (simp [intOf]; done) | (simp [intOf]; omega)
        · obtain rfl : j = rn := by omega
          rw [hde.out] at hI
          have hX := hS.rows
          have hC5 := hCw.trans hC (fun j q => .inl q)
          have hla := hI.last hs0 hsn
          have hrl : (rowsS S0).length ≤ 20 := by have := rowsS_len S0; have := hI.len; omega
          have hbk := hI.blks.trans hsf.out
          clear hjl hI hde hdr hoR hC hCw
          go_wp2_with fail
          refine hX.mono ?_
          rintro e w8 ⟨⟨v8, rfl, ho8⟩, hb8⟩
          rw [hla] at ho8
          have hS8 := hS.keep hb8
          have hC8 := hC5.trans (Chg.of_below (fun k => vx.ownBlock = some k) hb8) (fun j q => .inl q)
          have hX2 := sameSp _ _ (rowsS S0) (rowsS S0) w8 (by omega) (ho8.el eP_len) ((ho4.chg hC8 hne4.out).el eP_len)
          rw [decide_eq_true rfl] at hX2
          clear hX ho8 hb8 hS hla hC5
          go_wp2_with fail
          refine hX2.mono ?_
          rintro e w9 ⟨rfl, hb9⟩
          have hS9 := hS8.keep hb9
          have hC9 := hC8.trans (Chg.of_below (fun k => vx.ownBlock = some k) hb9) (fun j q => .inl q)
          clear hX2 hb9 hS8 hC8
          have hX := hS9.table
          obtain ⟨hWt, hLt⟩ : WL (tableS S) ∧ (tableS S).length ≤ 1000 := (by
                    refine ⟨fun y hy => ?_, by rw [table_len]; omega⟩
                    have := okN_bd (List.all_eq_true.1 (table_ok hS9.ok) y hy)
                    omega)
          have hbt := (blks_table hS9.ok).trans hbk
          go_wp2_with fail
          refine hX.mono ?_
          rintro e wa ⟨⟨va, rfl, hoa⟩, hba⟩
          have hSa := hS9.keep hba
          have hCa := hC9.trans (Chg.of_below (fun k => vx.ownBlock = some k) hba) (fun j q => .inl q)
          have hX2 := blocksT_any _ (tableS S) wa hSa.lw hoa.kl hWt (by omega)
          rw [hbt] at hX2
          clear hX hoa
          go_wp2_with fail
          refine hX2.mono ?_
          rintro e wb ⟨vb, rfl, hob, hbb⟩
          have hSb := hSa.keep hbb
          have hCb := hCa.trans (Chg.of_below (fun k => vx.ownBlock = some k) hbb) (fun j q => .inl q)
          have hkb := (hoB.chg hCb hneB.out).el eB_len
          have hX := sameBl _ _ was was wb (by have := hwl.out; omega) (hob.el eB_len) hkb
          rw [decide_eq_true rfl] at hX
          have hbab := hba.trans (hbb.mono hba.size)
          clear hX2 hbb hba hSa hCa hob hkb hWt hLt hbt
          go_wp2_with fail
          refine hX.mono ?_
          rintro e wc ⟨rfl, hbc⟩
          have hSc := hSb.keep hbc
          have hCc := hCb.trans (Chg.of_below (fun k => vx.ownBlock = some k) hbc) (fun j q => .inl q)
          have hbx := hbab.trans (hbc.mono hbab.size)
          clear hX hSb hCb hbab hbc
          go_wp2_with fail
          go_ret
          exact ⟨rfl, hSc.bel⟩
end Go.Proofs.YtnjifmecaeagaaaDoor
