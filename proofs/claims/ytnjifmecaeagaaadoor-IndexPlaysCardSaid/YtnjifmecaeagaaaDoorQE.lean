/-
  Package index: takeHuge, where there is room.
  Package index: takeBlock.
  What the calls of package class answer of a size, and of the document's answers beside it: contracts on the calls.
  Package index: Take.
  Package index, mathematics (2): a new index; its table and its rows; what none would do means; taken and dropped nothing is left.
-/
import Derived.Test.YtnjifmecaeagaaaDoorQD
import Derived.Deep.MidRow
import Derived.Test.YtnjifmecaeagaaaDoorClass1C
import Derived.WalkSpells
import Derived.Test.YtnjifmecaeagaaaDoorTi3
section
set_option linter.unusedVariables false
set_option linter.unusedSimpArgs false
namespace Go.Proofs.YtnjifmecaeagaaaDoor
open Go.Lib Go.RowKit Go.ChangeShapes Go.WideShapes Go.Deep

/-- a chunk's cells are there, and may be written -/
theorem IxAt.there {w : World} {base B g nn cap : Nat} {S : List St} (h : IxAt w base B (.slice (some ⟨g, 0, none⟩) nn cap) S) (hn : S.length = nn) {i : Nat} (hi : i < nn) : w.there g (i * 7) 7 := fun j hj => by
  obtain ⟨q1, q2⟩ := OwnE.cell eS_len h.row hn (i := i) (j := j) hi hj
  exact ⟨by rw [q1, List.getElem?_eq_getElem (by rw [eS_len]; exact hj)]; rfl, q2⟩
theorem infoS7 : (Tryd.prog.info? 99).map (·.size) = some 7 := by
  obtain ⟨i0, h1, h2, h3, h4⟩ := info_parts infoS
  rw [h1, Option.map_some, h3]
theorem one7 (a b c d e f g : Int) : (#[.int .i64 a, .int .i64 b, .int .i64 c, .int .i64 d, .int .u64 e, .int .u64 f, .int .u64 g] : Array Value).all (·.oneCell') = true :=
  all_oneCell_toArray (cs := [.int .i64 a, .int .i64 b, .int .i64 c, .int .i64 d, .int .u64 e, .int .u64 f, .int .u64 g]) (fun u hu => by
    simp only [List.mem_cons, List.not_mem_nil, or_false] at hu
    rcases hu with rfl | rfl | rfl | rfl | rfl | rfl | rfl <;> rfl)
theorem one5 (a b c d : Int) (f : Bool) : (#[.int .i64 a, .int .i64 b, .int .i64 c, .int .i64 d, .bool f] : Array Value).all (·.oneCell') = true :=
  all_oneCell_toArray (cs := [.int .i64 a, .int .i64 b, .int .i64 c, .int .i64 d, .bool f]) (fun u hu => by
    simp only [List.mem_cons, List.not_mem_nil, or_false] at hu
    rcases hu with rfl | rfl | rfl | rfl | rfl <;> rfl)
theorem PlBox.there {w : World} {R : Nat} (h : PlBox w R) : w.there R 0 5 := fun j hj => by
  rw [Nat.zero_add]
  refine ⟨?_, (row_cell h.blk j).2⟩
  rw [(row_cell h.blk j).1]
  have h5 : j = 0 ∨ j = 1 ∨ j = 2 ∨ j = 3 ∨ j = 4 := by omega
  rcases h5 with rfl | rfl | rfl | rfl | rfl <;> rfl
theorem infoPl5 : (Tryd.prog.info? 62).map (·.size) = some 5 := by kernel_rfl
set_option maxRecDepth 10000 in
set_option maxHeartbeats 1000000 in
theorem takeHuge_yes {w : World} {base B : Nat} {v : Value} {S : List St} (hI : IxAt w base B v S) (hS : SOk S) (hl : S.length ≤ 10000) (m : Nat) (hm : 1 ≤ m) (hm2 : m ≤ 8191) {a : Nat} (h : (rowsTo S m S.length).head? = some a) :
    Calls Tryd.prog 74 #[.pointer (some ⟨B, 0, none⟩), .int .i64 (m : Nat)] w fun e w' => e = .returned (.tuple #[plV (a : Nat) 0 (-1) (m : Nat) false, .int .i64 0]) ∧ IxAt w' base B v ((fillS S (a + 1) (3, 0, 0) (m - 1)).set a (2 + 2048 * m, 0, 1)) ∧ Chg (fun k => v.ownBlock = some k) w w' := by
  have hA := (Below.refl w.heap.size w).alloc (Nat.le_refl _) (.cells #[.int .i64 0, .int .i64 0, .int .i64 0, .int .i64 0, .bool false] 62)
  have hI1 := hI.keep hA
  have hR1 := PlBox.new w
  have hRo := rowsF_any B m (w.alloc (.cells #[.int .i64 0, .int .i64 0, .int .i64 0, .int .i64 0, .bool false] 62))
  have hFi := Lib.hid (fun w1 Bx Bm (hI2 : IxAt w1 base B v S) => firstRows_any (Bx := Bx) (Bm := Bm) hI2 hS hl hm hm2)
  have hH : headI (rowsTo S m S.length) = (a : Nat) := by
    cases hr : rowsTo S m S.length with
    | nil => rw [hr] at h; simp at h
    | cons b t => rw [hr] at h; simp at h; rw [h]; rfl
  rw [hH] at hFi
  have ham := (rows_head hm h).1.1
  obtain ⟨nn, hnn⟩ : ∃ n, S.length = n := ⟨_, rfl⟩
  obtain ⟨g, cap, rfl, hbg, hgl, hcap⟩ := hI.row.form (by omega)
  rw [hnn] at ham hl hcap hI hI1 hFi ⊢
  have hgB := hI1.ne g rfl
  obtain ⟨e, he⟩ : ∃ e, e = a + m := ⟨_, rfl⟩
  have t1 : IntKind.i64.wrap ((a : Int) + (m : Int)) = (e : Int) := by rw [IntKind.wrap_i64]; omega
  have t0 : decide ((a : Int) < 0) = false := decide_eq_false (by omega)
  obtain ⟨R, hR⟩ : ∃ R, w.heap.size = R := ⟨_, rfl⟩
  have hgR : ¬ R = g := by omega
  have hBR : ¬ B = R := by have := hI.box.lt; omega
  have hen : e ≤ nn := by omega
  clear h hH hS hI hbg hgl
  go_enter Tryd.func74, Tryd.ntmps74
  go_wp2_with fail
  refine hRo.mono ?_
  rintro e2 w2 ⟨⟨Bx, Bm, rfl, hx, hb⟩, hb2⟩
  have hI2 := hI1.keep hb2
  have hR2 := hR1.keep hb2
  have hB2 := hA.trans (hb2.mono hA.size)
  clear hRo
  go_wp2_with fail
  refine (hFi.out w2 Bx Bm hI2 hx hb).mono ?_
  rintro e3 w3 ⟨rfl, hb3⟩
  have hI3 := hI2.keep hb3
  have hR3 := hR2.keep hb3
  have hB3 := hB2.trans (hb3.mono hB2.size)
  have hC3 : Chg (fun k => k = g) w w3 := Chg.of_below _ hB3
  rw [hR] at hR3
  clear hI1 hI2 hR1 hR2 hA hB2 hb2 hb3 hFi hx hb hB3
  go_wp2_with fail
  go_loopw [7] (fun i wr => ∃ (p : Nat), a + 1 ≤ p ∧ p ≤ e ∧ i = .int .i64 p ∧ IxAt wr base B (.slice (some ⟨g, 0, none⟩) nn cap) (fillS S (a + 1) (3, 0, 0) (p - (a + 1))) ∧ PlBox wr R ∧ Chg (fun k => k = g) w wr) (fun i _ => e + 1 - (intOf i).toNat)
  case atStart => exact ⟨a + 1, Nat.le_refl _, by omega, by go_num, by rw [Nat.sub_self]; exact hI3, hR3, hC3⟩
  case round =>
    obtain ⟨p, hp1, hp2, rfl, hIr, hRr, hCr⟩ := hrel
    clear hI3 hR3 hC3
    obtain ⟨S', hS'⟩ : ∃ S', fillS S (a + 1) (3, 0, 0) (p - (a + 1)) = S' := ⟨_, rfl⟩
    have hl' : S'.length = nn := by rw [← hS', fill_len]; exact hnn
    have hxt := hS'
    rw [hS'] at hIr
    by_cases hlt : p < e
    · have hpn : p < nn := by omega
      have i2 : (p : Int) < (e : Int) := by omega
      have i3 : (p : Int) < (nn : Int) := by omega
      have xB := hIr.box.cell
      have hTh := hIr.there hl' hpn
      obtain ⟨hP, hCP⟩ := IxAt.put hIr hl' hpn (3, 0, 0)
      have hnx : fillS S (a + 1) (3, 0, 0) (p + 1 - (a + 1)) = S'.set p (3, 0, 0) := by
        rw [show p + 1 - (a + 1) = (p - (a + 1)) + 1 by omega, fillS, hS', show a + 1 + (p - (a + 1)) = p by omega]
      rw [← hnx] at hP
      have hRn := hRr.chg hCP hgR
      have hCn := hCr.trans hCP (fun j q => .inl q)
      obtain ⟨W, hW⟩ : ∃ W, wr.setCells g (p * 7) (eS (3, 0, 0)) = W := ⟨_, rfl⟩
      rw [hW] at hP hRn hCn
      replace hW := Lib.hid hW
      replace hTh := Lib.hid hTh
      clear hIr hRr hCr hCP hS' hxt hnx hl'
      replace he := Lib.hid he
      replace hnn := Lib.hid hnn
      go_wp2_with (refine wpList_store_mid rfl _ _ _ rfl g (p * 7) #[.int .i64 3, .int .i64 0, .int .i64 0, .int .i64 0, .int .u64 0, .int .u64 0, .int .u64 0] rfl rfl hTh.out infoS7 (one7 _ _ _ _ _ _ _) ?_; rw [show wr.setCells g (p * 7) (#[.int .i64 3, .int .i64 0, .int .i64 0, .int .i64 0, .int .u64 0, .int .u64 0, .int .u64 0] : Array Value).toList = W from hW.out])
      go_roundw
      case rel => exact ⟨p + 1, by omega, by omega, by go_num, hP, hRn, hCn⟩
      case measure => first | (simp [intOf]; done) | (simp [intOf]; omega)
    · obtain rfl : p = e := by omega
      have han : a < nn := by omega
      have i3 : (a : Int) < (nn : Int) := by omega
      have xB := hIr.box.cell
      have hTh := hIr.there hl' han
      obtain ⟨hP, hCP⟩ := IxAt.put hIr hl' han (2 + 2048 * m, 0, 1)
      rw [eS_huge hm2] at hP hCP
      have hRn := hRr.chg hCP hgR
      have hCn := hCr.trans hCP (fun j q => .inl q)
      rw [← hS', show p - (a + 1) = m - 1 by omega] at hP
      obtain ⟨W, hW⟩ : ∃ W, wr.setCells g (a * 7) [.int .i64 2, .int .i64 0, .int .i64 0, .int .i64 (m : Nat), .int .u64 0, .int .u64 0, .int .u64 1] = W := ⟨_, rfl⟩
      rw [hW] at hP hRn hCn
      replace hW := Lib.hid hW
      replace hTh := Lib.hid hTh
      clear hIr hRr hCr hCP hl' hS' hxt
      have hThR := Lib.hid hRn.there
      obtain ⟨⟨y0, y1, y2, y3, y4⟩, hch⟩ := hRn.put (a : Nat) 0 (-1) (m : Nat) false
      have hIe := hP.chg hch hBR (fun k q => by cases q; exact fun q => hgR q.symm)
      have hCe := hCn.trans hch (fun j q => .inr (by rw [q, ← hR]; exact Nat.le_refl _))
      clear hP hRn hCn hch
      obtain ⟨W2, hW2⟩ : ∃ W2, plW W R (a : Nat) 0 (-1) (m : Nat) false = W2 := ⟨_, rfl⟩
      rw [hW2] at y0 y1 y2 y3 y4 hIe hCe
      replace hIe := Lib.hid hIe
      replace hCe := Lib.hid hCe
      replace hW2 := Lib.hid hW2
      replace he := Lib.hid he
      replace hnn := Lib.hid hnn
      go_wp2_with (first | (refine wpList_store_mid rfl _ _ _ rfl g (a * 7) #[.int .i64 2, .int .i64 0, .int .i64 0, .int .i64 (m : Nat), .int .u64 0, .int .u64 0, .int .u64 1] rfl rfl hTh.out infoS7 (one7 _ _ _ _ _ _ _) ?_; rw [show wr.setCells g (a * 7) (#[.int .i64 2, .int .i64 0, .int .i64 0, .int .i64 (m : Nat), .int .u64 0, .int .u64 0, .int .u64 1] : Array Value).toList = W from hW.out]) | (refine wpList_store_mid rfl _ _ _ rfl R 0 #[.int .i64 (a : Nat), .int .i64 0, .int .i64 (-1), .int .i64 (m : Nat), .bool false] rfl rfl hThR.out infoPl5 (one5 _ _ _ _ _) ?_; rw [show (W).setCells R 0 (#[.int .i64 (a : Nat), .int .i64 0, .int .i64 (-1), .int .i64 (m : Nat), .bool false] : Array Value).toList = W2 from hW2.out]))
      refine bodyPost_ret (v := .tuple #[plV (a : Nat) 0 (-1) (m : Nat) false, .int .i64 0]) ?_ rfl ⟨rfl, hIe.out, ⟨hCe.out.os, hCe.out.tape, hCe.out.output, hCe.out.size, fun k hk hn => hCe.out.block k hk (fun q => hn (by rw [q]; rfl))⟩⟩
      simp [results, Tryd.f74, go_sem, y0, y1, y2, y3, y4]
end Go.Proofs.YtnjifmecaeagaaaDoor
end
section
set_option linter.unusedVariables false
set_option linter.unusedSimpArgs false
namespace Go.Proofs.YtnjifmecaeagaaaDoor
open Go.Lib Go.RowKit Go.ChangeShapes Go.WideShapes Go.Deep
set_option maxRecDepth 10000 in
set_option maxHeartbeats 1000000 in
theorem takeBlock_run {w : World} {base B : Nat} {v : Value} {S : List St} (hI : IxAt w base B v S) (hS : SOk S) (hl : S.length ≤ 10000) (hw : Lw w) (c : Nat) (hc : c < 3) {i j : Nat} (h : (runsTo S c S.length).head? = some i) (hj : firstOff ((gS S i).2.1 ||| (gS S i).2.2) (mnN c) = some j) :
    Calls Tryd.prog 73 #[.pointer (some ⟨B, 0, none⟩), .int .i64 (c : Nat)] w fun e w' => e = .returned (.tuple #[plV (i : Nat) (j : Nat) (c : Nat) 0 false, .int .i64 0]) ∧ IxAt w' base B v (S.set i ((gS S i).1, (gS S i).2.1, (gS S i).2.2 ||| 2 ^ j)) ∧ Chg (fun k => v.ownBlock = some k) w w' := by
  have hA := (Below.refl w.heap.size w).alloc (Nat.le_refl _) (.cells #[.int .i64 0, .int .i64 0, .int .i64 0, .int .i64 0, .bool false] 62)
  have hI1 := hI.keep hA
  have hR1 := PlBox.new w
  have hRo := runsF_any B c (w.alloc (.cells #[.int .i64 0, .int .i64 0, .int .i64 0, .int .i64 0, .bool false] 62))
  have hFi := Lib.hid (fun w1 Bx Bm (hb : Below w.heap.size w w1) (hI2 : IxAt w1 base B v S) => firstRuns_any (Bx := Bx) (Bm := Bm) hI2 hS hl (hw.keep hb) hc)
  have hH : headI (runsTo S c S.length) = (i : Nat) := by
    cases hr : runsTo S c S.length with
    | nil => rw [hr] at h; simp at h
    | cons b t => rw [hr] at h; simp at h; rw [h]; rfl
  rw [hH] at hFi
  obtain ⟨hi, hra, _⟩ := head_filter h
  obtain ⟨nn, hnn⟩ : ∃ n, S.length = n := ⟨_, rfl⟩
  obtain ⟨g, cap, rfl, hbg, hgl, hcap⟩ := hI.row.form (by omega)
  have hsi := hS.each i hi
  have hgB := hI1.ne g rfl
  rw [hnn] at hi hl hcap hI hI1 hFi ⊢
  obtain ⟨R, hR⟩ : ∃ R, w.heap.size = R := ⟨_, rfl⟩
  have hgR : ¬ R = g := by omega
  have hBR : ¬ B = R := by have := hI.box.lt; omega
  obtain ⟨s, hs⟩ : ∃ s, gS S i = s := ⟨_, rfl⟩
  rw [hs] at hsi hra hj ⊢
  obtain ⟨x, lv, tk⟩ := s
  simp only [] at hj ⊢
  unfold runAt at hra
  simp only [Bool.and_eq_true, decide_eq_true_eq] at hra
  obtain ⟨⟨k1, kc⟩, _⟩ := hra
  have hpm := pow_mn (cN x)
  obtain ⟨u1, u2, u3⟩ := hsi.run k1
  simp only [] at u1 u2 u3
  have hlv : lv < 256 := by omega
  have htk : tk < 256 := by omega
  have hor := or_bd hlv htk
  have hroom : roomS (x, lv, tk) = (j : Int) := room_some k1 (by simp only []; omega) hor (by simp only []; rw [kc]; exact hj)
  have hRm := Lib.hid (fun w1 (hb : Below w.heap.size w w1) => roomS_any x lv tk w1 (hw.keep hb) hlv htk)
  rw [hroom] at hRm
  obtain ⟨hj1, _⟩ := firstOff_t hj
  have hj8 : j < 8 := by have := mnN_le c; omega
  obtain ⟨V, hV⟩ : ∃ V, V = 2 ^ j := ⟨_, rfl⟩
  have hV8 : V < 256 := by rw [hV]; exact Nat.pow_lt_pow_right (n := 8) (by decide : 1 < 2) hj8
  have r3 : IntKind.u64.wrap (2 ^ j) = (V : Int) := by rw [hV]; exact wrap_pow j (by omega)
  have z3 : (j : Int) < 64 := by omega
  have t5 : bits .or .u64 ((tk : Nat) : Int) ((V : Nat) : Int) = ((tk ||| V : Nat) : Int) := u64_or_nat _ _ (by omega) (by omega)
  rw [← hV]
  replace hV := Lib.hid hV
  generalize tk ||| V = o at *
  have t0 : decide (0 ≤ (i : Int)) = true := decide_eq_true (by omega)
  have t9 : (i : Int) < (nn : Int) := by omega
  replace hs := Lib.hid hs
  clear h hH hsi hI hS hroom hj hj1 hj8 hor hpm u1 u2 u3 k1 kc hbg hgl hw
  go_enter Tryd.func73, Tryd.ntmps73
  go_wp2_with fail
  refine hRo.mono ?_
  rintro e2 w2 ⟨⟨Bx, Bm, rfl, hx, hb⟩, hb2⟩
  have hI2 := hI1.keep hb2
  have hR2 := hR1.keep hb2
  have hB2 := hA.trans (hb2.mono hA.size)
  clear hRo
  go_wp2_with fail
  refine (hFi.out w2 Bx Bm hB2 hI2 hx hb).mono ?_
  rintro e3 w3 ⟨rfl, hb3⟩
  have hI3 := hI2.keep hb3
  have hR3 := hR2.keep hb3
  have hB3 := hB2.trans (hb3.mono hB2.size)
  rw [hR] at hR3
  clear hI1 hI2 hR1 hR2 hA hB2 hb2 hb3 hFi hx hb
  have xB := hI3.box.cell
  have hcc := fun (j : Nat) (hj : j < 7) => OwnE.cell eS_len hI3.row hnn (i := i) (j := j) hi hj
  rw [show S.getD i default = (x, lv, tk) from hs.out] at hcc
  obtain ⟨c0, _⟩ := hcc 0 (by omega)
  obtain ⟨c1, _⟩ := hcc 1 (by omega)
  obtain ⟨c2, _⟩ := hcc 2 (by omega)
  obtain ⟨c3, _⟩ := hcc 3 (by omega)
  obtain ⟨c4, _⟩ := hcc 4 (by omega)
  obtain ⟨c5, _⟩ := hcc 5 (by omega)
  obtain ⟨c6, _⟩ := hcc 6 (by omega)
  replace c0 : w3.cell? ⟨g, i * 7, none⟩ = some (.int .i64 (kN x : Nat)) := c0
  replace c1 : w3.cell? ⟨g, i * 7 + 1, none⟩ = some (.int .i64 (cN x : Nat)) := c1
  replace c2 : w3.cell? ⟨g, i * 7 + 2, none⟩ = some (.int .i64 (lnN x : Nat)) := c2
  replace c3 : w3.cell? ⟨g, i * 7 + 3, none⟩ = some (.int .i64 (mN x : Nat)) := c3
  replace c4 : w3.cell? ⟨g, i * 7 + 4, none⟩ = some (.int .u64 (bN x : Nat)) := c4
  replace c5 : w3.cell? ⟨g, i * 7 + 5, none⟩ = some (.int .u64 (lv : Nat)) := c5
  replace c6 : w3.cell? ⟨g, i * 7 + 6, none⟩ = some (.int .u64 (tk : Nat)) := c6
  clear hcc
  replace hnn := Lib.hid hnn
  have hRm3 := hRm.out w3 hB3
  go_wp2_with fail
  refine hRm3.mono ?_
  rintro e4 w4 ⟨rfl, hb4⟩
  have hI4 := hI3.keep hb4
  have hR4 := hR3.keep hb4
  have hB4 := hB3.trans (hb4.mono hB3.size)
  have yB := hI4.box.cell
  have d6 := cellK5 c6 hb4
  have df := (OwnE.cell eS_len hI4.row hnn.out (i := i) (j := 6) hi (by omega)).2
  obtain ⟨hP, hCP⟩ := IxAt.set hI4 hnn.out hi (j := 6) (by omega) (s := (x, lv, o)) (u := .int .u64 (o : Nat)) (by rw [hs.out]; rfl)
  have hRn := hR4.chg hCP hgR
  have hCn : Chg (fun k => k = g) w (w4.setCell ⟨g, i * 7 + 6, none⟩ (.int .u64 (o : Nat))) := (Chg.of_below (fun k => k = g) hB4).trans hCP (fun j q => .inl q)
  clear hRm hRm3 hI3 hI4 hR3 hR4 hb4 hCP hB4 hB3 c0 c1 c2 c3 c4 c5 c6 xB
  have hThR := Lib.hid hRn.there
  obtain ⟨⟨y0, y1, y2, y3, y4⟩, hch⟩ := hRn.put (i : Nat) (j : Nat) (c : Nat) 0 false
  have hIe := hP.chg hch hBR (fun k q => by cases q; exact fun q => hgR q.symm)
  have hCe := hCn.trans hch (fun j q => .inr (by rw [q, ← hR]; exact Nat.le_refl _))
  obtain ⟨W2, hW2⟩ : ∃ W2, plW (w4.setCell ⟨g, i * 7 + 6, none⟩ (.int .u64 (o : Nat))) R (i : Nat) (j : Nat) (c : Nat) 0 false = W2 := ⟨_, rfl⟩
  rw [hW2] at y0 y1 y2 y3 y4 hIe hCe
  replace hIe := Lib.hid hIe
  replace hCe := Lib.hid hCe
  replace hW2 := Lib.hid hW2
  clear hP hRn hCn hch
  go_wp2_with (refine wpList_store_mid rfl _ _ _ rfl R 0 #[.int .i64 (i : Nat), .int .i64 (j : Nat), .int .i64 (c : Nat), .int .i64 0, .bool false] rfl rfl hThR.out infoPl5 (one5 _ _ _ _ _) ?_; rw [show ((w4.setCell ⟨g, i * 7 + 6, none⟩ (.int .u64 (o : Nat)))).setCells R 0 (#[.int .i64 (i : Nat), .int .i64 (j : Nat), .int .i64 (c : Nat), .int .i64 0, .bool false] : Array Value).toList = W2 from hW2.out])
  refine bodyPost_ret (v := .tuple #[plV (i : Nat) (j : Nat) (c : Nat) 0 false, .int .i64 0]) ?_ rfl ⟨rfl, hIe.out, ⟨hCe.out.os, hCe.out.tape, hCe.out.output, hCe.out.size, fun k hk hn => hCe.out.block k hk (fun q => hn (by rw [q]; rfl))⟩⟩
  simp [results, Tryd.f73, go_sem, y0, y1, y2, y3, y4]
set_option maxRecDepth 10000 in
set_option maxHeartbeats 1000000 in
theorem takeBlock_full {w : World} {base B : Nat} {v : Value} {S : List St} (hI : IxAt w base B v S) (hS : SOk S) (hl : S.length ≤ 10000) (hw : Lw w) (c : Nat) (hc : c < 3) (h : (runsTo S c S.length).head? = none) (h2 : (rowsTo S 1 S.length).head? = none) :
    Calls Tryd.prog 73 #[.pointer (some ⟨B, 0, none⟩), .int .i64 (c : Nat)] w fun e w' => e = .returned (.tuple #[plV 0 0 0 0 false, .int .i64 2]) ∧ Below w.heap.size w w' := by
  have hA := (Below.refl w.heap.size w).alloc (Nat.le_refl _) (.cells #[.int .i64 0, .int .i64 0, .int .i64 0, .int .i64 0, .bool false] 62)
  have hI1 := hI.keep hA
  have hR1 := PlBox.new w
  have hRo := runsF_any B c (w.alloc (.cells #[.int .i64 0, .int .i64 0, .int .i64 0, .int .i64 0, .bool false] 62))
  have hFi := Lib.hid (fun w1 Bx Bm (hb : Below w.heap.size w w1) (hI2 : IxAt w1 base B v S) => firstRuns_any (Bx := Bx) (Bm := Bm) hI2 hS hl (hw.keep hb) hc)
  have hH : headI (runsTo S c S.length) = -1 := by
    cases hr : runsTo S c S.length with
    | nil => rfl
    | cons b t => rw [hr] at h; simp at h
  rw [hH] at hFi
  have hFj := Lib.hid (fun w1 Bx Bm (hI2 : IxAt w1 base B v S) => firstRows_any (Bx := Bx) (Bm := Bm) hI2 hS hl (Nat.le_refl 1) (by omega))
  have hJ : headI (rowsTo S 1 S.length) = -1 := by
    cases hr : rowsTo S 1 S.length with
    | nil => rfl
    | cons b t => rw [hr] at h2; simp at h2
  rw [hJ] at hFj
  obtain ⟨R, hR⟩ : ∃ R, w.heap.size = R := ⟨_, rfl⟩
  clear h h2 hH hJ hS hl hI
  go_enter Tryd.func73, Tryd.ntmps73
  go_wp2_with fail
  refine hRo.mono ?_
  rintro e2 w2 ⟨⟨Bx, Bm, rfl, hx, hb⟩, hb2⟩
  have hI2 := hI1.keep hb2
  have hR2 := hR1.keep hb2
  have hB2 := hA.trans (hb2.mono hA.size)
  clear hRo
  go_wp2_with fail
  refine (hFi.out w2 Bx Bm hB2 hI2 hx hb).mono ?_
  rintro e3 w3 ⟨rfl, hb3⟩
  have hI3 := hI2.keep hb3
  have hR3 := hR2.keep hb3
  have hB3 := hB2.trans (hb3.mono hB2.size)
  rw [hR] at hR3
  clear hI1 hI2 hR1 hR2 hA hB2 hb2 hb3 hFi hx hb
  have hRo2 := rowsF_any B 1 w3
  rw [show (((1 : Nat) : Int)) = 1 from rfl] at hRo2
  go_wp2_with fail
  refine hRo2.mono ?_
  rintro e4 w4 ⟨⟨Bx, Bm, rfl, hx, hb⟩, hb4⟩
  have hI4 := hI3.keep hb4
  have hR4 := hR3.keep hb4
  have hB4 := hB3.trans (hb4.mono hB3.size)
  clear hRo2
  go_wp2_with fail
  refine (hFj.out w4 Bx Bm hI4 hx hb).mono ?_
  rintro e5 w5 ⟨rfl, hb5⟩
  have hI5 := hI4.keep hb5
  have hR5 := hR4.keep hb5
  have hB5 := hB4.trans (hb5.mono hB4.size)
  clear hI3 hI4 hR3 hR4 hB3 hB4 hb4 hb5 hFj hx hb
  have hThR := Lib.hid hR5.there
  obtain ⟨⟨y0, y1, y2, y3, y4⟩, hch⟩ := hR5.put 0 0 0 0 false
  have hBW : Below w.heap.size w (plW w5 R 0 0 0 0 false) := hB5.trans (hch.below (fun q h => by omega) hB5.size)
  obtain ⟨W2, hW2⟩ : ∃ W2, plW w5 R 0 0 0 0 false = W2 := ⟨_, rfl⟩
  rw [hW2] at y0 y1 y2 y3 y4 hBW
  replace hW2 := Lib.hid hW2
  replace hBW := Lib.hid hBW
  clear hR5 hch hI5 hB5
  go_wp2_with (refine wpList_store_mid rfl _ _ _ rfl R 0 #[.int .i64 0, .int .i64 0, .int .i64 0, .int .i64 0, .bool false] rfl rfl hThR.out infoPl5 (one5 _ _ _ _ _) ?_; rw [show (w5).setCells R 0 (#[.int .i64 0, .int .i64 0, .int .i64 0, .int .i64 0, .bool false] : Array Value).toList = W2 from hW2.out])
  refine bodyPost_ret (v := .tuple #[plV 0 0 0 0 false, .int .i64 2]) ?_ rfl ⟨rfl, hBW.out⟩
  simp [results, Tryd.f73, go_sem, y0, y1, y2, y3, y4]
theorem eS_run {c : Nat} (h : c < 3) : eS (1 + 8 * c, 0, 1) = [.int .i64 1, .int .i64 (c : Nat), .int .i64 0, .int .i64 0, .int .u64 0, .int .u64 0, .int .u64 1] := by
  have e0 : kN (1 + 8 * c) = 1 := by unfold kN; omega
  have e1 : cN (1 + 8 * c) = c := by unfold cN; omega
  have e2 : lnN (1 + 8 * c) = 0 := by unfold lnN; omega
  have e3 : mN (1 + 8 * c) = 0 := by unfold mN; omega
  have e4 : bN (1 + 8 * c) = 0 := by unfold bN; omega
  unfold eS
  rw [e0, e1, e2, e3, e4]; rfl
set_option maxRecDepth 10000 in
set_option maxHeartbeats 1000000 in
theorem takeBlock_fresh {w : World} {base B : Nat} {v : Value} {S : List St} (hI : IxAt w base B v S) (hS : SOk S) (hl : S.length ≤ 10000) (hw : Lw w) (c : Nat) (hc : c < 3) {i : Nat} (h : (runsTo S c S.length).head? = none) (h2 : (rowsTo S 1 S.length).head? = some i) :
    Calls Tryd.prog 73 #[.pointer (some ⟨B, 0, none⟩), .int .i64 (c : Nat)] w fun e w' => e = .returned (.tuple #[plV (i : Nat) 0 (c : Nat) 0 true, .int .i64 0]) ∧ IxAt w' base B v (S.set i (1 + 8 * c, 0, 1)) ∧ Chg (fun k => v.ownBlock = some k) w w' := by
  have hA := (Below.refl w.heap.size w).alloc (Nat.le_refl _) (.cells #[.int .i64 0, .int .i64 0, .int .i64 0, .int .i64 0, .bool false] 62)
  have hI1 := hI.keep hA
  have hR1 := PlBox.new w
  have hRo := runsF_any B c (w.alloc (.cells #[.int .i64 0, .int .i64 0, .int .i64 0, .int .i64 0, .bool false] 62))
  have hFi := Lib.hid (fun w1 Bx Bm (hb : Below w.heap.size w w1) (hI2 : IxAt w1 base B v S) => firstRuns_any (Bx := Bx) (Bm := Bm) hI2 hS hl (hw.keep hb) hc)
  have hH : headI (runsTo S c S.length) = -1 := by
    cases hr : runsTo S c S.length with
    | nil => rfl
    | cons b t => rw [hr] at h; simp at h
  rw [hH] at hFi
  have hFj := Lib.hid (fun w1 Bx Bm (hI2 : IxAt w1 base B v S) => firstRows_any (Bx := Bx) (Bm := Bm) hI2 hS hl (Nat.le_refl 1) (by omega))
  have hJ : headI (rowsTo S 1 S.length) = (i : Nat) := by
    cases hr : rowsTo S 1 S.length with
    | nil => rw [hr] at h2; simp at h2
    | cons b t => rw [hr] at h2; simp at h2; rw [h2]; rfl
  rw [hJ] at hFj
  have hi := (rows_head (Nat.le_refl 1) h2).1.1
  obtain ⟨nn, hnn⟩ : ∃ n, S.length = n := ⟨_, rfl⟩
  obtain ⟨g, cap, rfl, hbg, hgl, hcap⟩ := hI.row.form (by omega)
  have hgB := hI1.ne g rfl
  rw [hnn] at hi hl hcap hI hI1 hFi hFj ⊢
  replace hi : i < nn := by omega
  obtain ⟨R, hR⟩ : ∃ R, w.heap.size = R := ⟨_, rfl⟩
  have hgR : ¬ R = g := by omega
  have hBR : ¬ B = R := by have := hI.box.lt; omega
  have t9 : (i : Int) < (nn : Int) := by omega
  have t0 : decide ((i : Int) < 0) = false := decide_eq_false (by omega)
  replace hnn := Lib.hid hnn
  clear h h2 hH hJ hS hI hbg hgl hw
  go_enter Tryd.func73, Tryd.ntmps73
  go_wp2_with fail
  refine hRo.mono ?_
  rintro e2 w2 ⟨⟨Bx, Bm, rfl, hx, hb⟩, hb2⟩
  have hI2 := hI1.keep hb2
  have hR2 := hR1.keep hb2
  have hB2 := hA.trans (hb2.mono hA.size)
  clear hRo
  go_wp2_with fail
  refine (hFi.out w2 Bx Bm hB2 hI2 hx hb).mono ?_
  rintro e3 w3 ⟨rfl, hb3⟩
  have hI3 := hI2.keep hb3
  have hR3 := hR2.keep hb3
  have hB3 := hB2.trans (hb3.mono hB2.size)
  rw [hR] at hR3
  clear hI1 hI2 hR1 hR2 hA hB2 hb2 hb3 hFi hx hb
  have hRo2 := rowsF_any B 1 w3
  rw [show (((1 : Nat) : Int)) = 1 from rfl] at hRo2
  go_wp2_with fail
  refine hRo2.mono ?_
  rintro e4 w4 ⟨⟨Bx, Bm, rfl, hx, hb⟩, hb4⟩
  have hI4 := hI3.keep hb4
  have hR4 := hR3.keep hb4
  have hB4 := hB3.trans (hb4.mono hB3.size)
  clear hRo2
  go_wp2_with fail
  refine (hFj.out w4 Bx Bm hI4 hx hb).mono ?_
  rintro e5 w5 ⟨rfl, hb5⟩
  have hI5 := hI4.keep hb5
  have hR5 := hR4.keep hb5
  have hB5 := hB4.trans (hb5.mono hB4.size)
  clear hI3 hI4 hR3 hR4 hB3 hB4 hb4 hb5 hFj hx hb
  have xB := hI5.box.cell
  have hTh := Lib.hid (hI5.there hnn.out hi)
  obtain ⟨hP, hCP⟩ := IxAt.put hI5 hnn.out hi (1 + 8 * c, 0, 1)
  rw [eS_run hc] at hP hCP
  have hRn := hR5.chg hCP hgR
  have hCn := (Chg.of_below (fun k => k = g) hB5).trans hCP (fun j q => .inl q)
  obtain ⟨W, hW⟩ : ∃ W, w5.setCells g (i * 7) [.int .i64 1, .int .i64 (c : Nat), .int .i64 0, .int .i64 0, .int .u64 0, .int .u64 0, .int .u64 1] = W := ⟨_, rfl⟩
  rw [hW] at hP hRn hCn
  replace hW := Lib.hid hW
  clear hCP hR5 hI5 hB5
  have hThR := Lib.hid hRn.there
  obtain ⟨⟨y0, y1, y2, y3, y4⟩, hch⟩ := hRn.put (i : Nat) 0 (c : Nat) 0 true
  have hIe := hP.chg hch hBR (fun k q => by cases q; exact fun q => hgR q.symm)
  have hCe := hCn.trans hch (fun j q => .inr (by rw [q, ← hR]; exact Nat.le_refl _))
  obtain ⟨W2, hW2⟩ : ∃ W2, plW W R (i : Nat) 0 (c : Nat) 0 true = W2 := ⟨_, rfl⟩
  rw [hW2] at y0 y1 y2 y3 y4 hIe hCe
  replace hIe := Lib.hid hIe
  replace hCe := Lib.hid hCe
  replace hW2 := Lib.hid hW2
  clear hP hRn hCn hch
  go_wp2_with (first | (refine wpList_store_mid rfl _ _ _ rfl g (i * 7) #[.int .i64 1, .int .i64 (c : Nat), .int .i64 0, .int .i64 0, .int .u64 0, .int .u64 0, .int .u64 1] rfl rfl hTh.out infoS7 (one7 _ _ _ _ _ _ _) ?_; rw [show w5.setCells g (i * 7) (#[.int .i64 1, .int .i64 (c : Nat), .int .i64 0, .int .i64 0, .int .u64 0, .int .u64 0, .int .u64 1] : Array Value).toList = W from hW.out]) | (refine wpList_store_mid rfl _ _ _ rfl R 0 #[.int .i64 (i : Nat), .int .i64 0, .int .i64 (c : Nat), .int .i64 0, .bool true] rfl rfl hThR.out infoPl5 (one5 _ _ _ _ _) ?_; rw [show (W).setCells R 0 (#[.int .i64 (i : Nat), .int .i64 0, .int .i64 (c : Nat), .int .i64 0, .bool true] : Array Value).toList = W2 from hW2.out]))
  refine bodyPost_ret (v := .tuple #[plV (i : Nat) 0 (c : Nat) 0 true, .int .i64 0]) ?_ rfl ⟨rfl, hIe.out, ⟨hCe.out.os, hCe.out.tape, hCe.out.output, hCe.out.size, fun k hk hn => hCe.out.block k hk (fun q => hn (by rw [q]; rfl))⟩⟩
  simp [results, Tryd.f73, go_sem, y0, y1, y2, y3, y4]
end Go.Proofs.YtnjifmecaeagaaaDoor
end
section
set_option linter.unusedVariables false
set_option linter.unusedSimpArgs false
namespace Go.Proofs.YtnjifmecaeagaaaDoor
open Go.RowKit Go.ChangeShapes Go.WideShapes Go.Deep
def clsI (s : Int) : Int := if s < 0 then -1 else if s ≤ 2 then 0 else if s ≤ 6 then 1 else if s ≤ 14 then 2 else -1
def chkI (s : Int) : Int := if 15 ≤ s ∧ s ≤ 4096 then (s + 33) / 32 else 0
def rgtB (s : Int) : Bool := decide (0 ≤ s ∧ s ≤ 4096)
set_option maxHeartbeats 400000 in
theorem rgt_any (s : Int) (w : World) : Calls Tryd.prog 71 #[.int .i64 s] w fun e w' => e = .returned (.bool (rgtB s)) ∧ w = w' := by
  by_cases h : 0 ≤ s
  · by_cases k : s ≤ 4096
    · go_enter Tryd.func71, Tryd.ntmps71
      go_wp2
      go_ret
      exact ⟨ret_b (by simp [rgtB]; omega), rfl⟩
    · go_enter Tryd.func71, Tryd.ntmps71
      go_wp2
      go_ret
      exact ⟨ret_b (by simp [rgtB]; omega), rfl⟩
  · go_enter Tryd.func71, Tryd.ntmps71
    go_wp2
    go_ret
    exact ⟨ret_b (by simp [rgtB]; omega), rfl⟩
set_option maxHeartbeats 400000 in
theorem refRgt_any (s : Int) (w : World) : Calls Tryd.prog 76 #[.int .i64 s] w fun e w' => e = .returned (.bool (rgtB s)) ∧ w = w' := by
  by_cases h : 0 ≤ s
  · by_cases k : s ≤ 4096
    · go_enter Tryd.func76, Tryd.ntmps76
      go_wp2
      go_ret
      exact ⟨ret_b (by simp [rgtB]; omega), rfl⟩
    · go_enter Tryd.func76, Tryd.ntmps76
      go_wp2
      go_ret
      exact ⟨ret_b (by simp [rgtB]; omega), rfl⟩
  · go_enter Tryd.func76, Tryd.ntmps76
    go_wp2
    go_ret
    exact ⟨ret_b (by simp [rgtB]; omega), rfl⟩
theorem rgt_t (s : Int) (w : World) (h0 : 0 ≤ s) (h1 : s ≤ 4096) : Calls Tryd.prog 71 #[.int .i64 s] w fun e w' => e = .returned (.bool true) ∧ w = w' := by
  have := rgt_any s w
  rwa [show rgtB s = true by simp [rgtB]; omega] at this
theorem rgt_f (s : Int) (w : World) (h : s < 0 ∨ 4096 < s) : Calls Tryd.prog 71 #[.int .i64 s] w fun e w' => e = .returned (.bool false) ∧ w = w' := by
  have := rgt_any s w
  rwa [show rgtB s = false by simp [rgtB]; omega] at this
theorem refRgt_t (s : Int) (w : World) (h0 : 0 ≤ s) (h1 : s ≤ 4096) : Calls Tryd.prog 76 #[.int .i64 s] w fun e w' => e = .returned (.bool true) ∧ w = w' := by
  have := refRgt_any s w
  rwa [show rgtB s = true by simp [rgtB]; omega] at this
theorem refRgt_f (s : Int) (w : World) (h : s < 0 ∨ 4096 < s) : Calls Tryd.prog 76 #[.int .i64 s] w fun e w' => e = .returned (.bool false) ∧ w = w' := by
  have := refRgt_any s w
  rwa [show rgtB s = false by simp [rgtB]; omega] at this
set_option maxHeartbeats 400000 in
theorem taken_any (s : Int) (w : World) (h0 : 0 ≤ s) (h1 : s ≤ 4096) : Calls Tryd.prog 96 #[.int .i64 s] w fun e w' => e = .returned (.int .i64 (s + 2)) ∧ w = w' := by
  go_enter Tryd.func96, Tryd.ntmps96
  go_wp2
  go_ret
  exact ⟨rfl, rfl⟩
set_option maxHeartbeats 800000 in
theorem of_0 (s : Int) (w : World) (ht : Tab w) (h1 : 0 ≤ s) (h2 : s ≤ 2) : Calls Tryd.prog 72 #[.int .i64 s] w fun e w' => e = .returned (.int .i64 0) ∧ w = w' := by
  obtain ⟨t0, t1, t2⟩ := ht
  have i0 : ∀ w, (Instr.index 119 (.agg #[.int .i64 4, .int .i64 8, .int .i64 16]) (.int .i64 0)).run Tryd.prog w = .ok (.int .i64 4) w := fun _ => by kernel_rfl
  have i1 : ∀ w, (Instr.index 119 (.agg #[.int .i64 4, .int .i64 8, .int .i64 16]) (.int .i64 1)).run Tryd.prog w = .ok (.int .i64 8) w := fun _ => by kernel_rfl
  have i2 : ∀ w, (Instr.index 119 (.agg #[.int .i64 4, .int .i64 8, .int .i64 16]) (.int .i64 2)).run Tryd.prog w = .ok (.int .i64 16) w := fun _ => by kernel_rfl
  go_enter Tryd.func72, Tryd.ntmps72
  go_wp2_with (first | (go_at_call 71; ((with_reducible refine (rgt_t s _ (by omega) (by omega)).mono ?_); rintro e w' ⟨rfl, rfl⟩)) | (go_at_call 96; ((with_reducible refine (taken_any s _ (by omega) (by omega)).mono ?_); rintro e w' ⟨rfl, rfl⟩)))
  refine wp_loop_rounds 4 ?_
  repeat any_goals (rw [rounds_succ]; go_wp2_with (first | (go_at_call 71; ((with_reducible refine (rgt_t s _ (by omega) (by omega)).mono ?_); rintro e w' ⟨rfl, rfl⟩)) | (go_at_call 96; ((with_reducible refine (taken_any s _ (by omega) (by omega)).mono ?_); rintro e w' ⟨rfl, rfl⟩))))
  go_ret
  exact ⟨rfl, rfl⟩
set_option maxHeartbeats 800000 in
theorem of_1 (s : Int) (w : World) (ht : Tab w) (h1 : 3 ≤ s) (h2 : s ≤ 6) : Calls Tryd.prog 72 #[.int .i64 s] w fun e w' => e = .returned (.int .i64 1) ∧ w = w' := by
  obtain ⟨t0, t1, t2⟩ := ht
  have i0 : ∀ w, (Instr.index 119 (.agg #[.int .i64 4, .int .i64 8, .int .i64 16]) (.int .i64 0)).run Tryd.prog w = .ok (.int .i64 4) w := fun _ => by kernel_rfl
  have i1 : ∀ w, (Instr.index 119 (.agg #[.int .i64 4, .int .i64 8, .int .i64 16]) (.int .i64 1)).run Tryd.prog w = .ok (.int .i64 8) w := fun _ => by kernel_rfl
  have i2 : ∀ w, (Instr.index 119 (.agg #[.int .i64 4, .int .i64 8, .int .i64 16]) (.int .i64 2)).run Tryd.prog w = .ok (.int .i64 16) w := fun _ => by kernel_rfl
  go_enter Tryd.func72, Tryd.ntmps72
  go_wp2_with (first | (go_at_call 71; ((with_reducible refine (rgt_t s _ (by omega) (by omega)).mono ?_); rintro e w' ⟨rfl, rfl⟩)) | (go_at_call 96; ((with_reducible refine (taken_any s _ (by omega) (by omega)).mono ?_); rintro e w' ⟨rfl, rfl⟩)))
  refine wp_loop_rounds 4 ?_
  repeat any_goals (rw [rounds_succ]; go_wp2_with (first | (go_at_call 71; ((with_reducible refine (rgt_t s _ (by omega) (by omega)).mono ?_); rintro e w' ⟨rfl, rfl⟩)) | (go_at_call 96; ((with_reducible refine (taken_any s _ (by omega) (by omega)).mono ?_); rintro e w' ⟨rfl, rfl⟩))))
  go_ret
  exact ⟨rfl, rfl⟩
set_option maxHeartbeats 800000 in
theorem of_2 (s : Int) (w : World) (ht : Tab w) (h1 : 7 ≤ s) (h2 : s ≤ 14) : Calls Tryd.prog 72 #[.int .i64 s] w fun e w' => e = .returned (.int .i64 2) ∧ w = w' := by
  obtain ⟨t0, t1, t2⟩ := ht
  have i0 : ∀ w, (Instr.index 119 (.agg #[.int .i64 4, .int .i64 8, .int .i64 16]) (.int .i64 0)).run Tryd.prog w = .ok (.int .i64 4) w := fun _ => by kernel_rfl
  have i1 : ∀ w, (Instr.index 119 (.agg #[.int .i64 4, .int .i64 8, .int .i64 16]) (.int .i64 1)).run Tryd.prog w = .ok (.int .i64 8) w := fun _ => by kernel_rfl
  have i2 : ∀ w, (Instr.index 119 (.agg #[.int .i64 4, .int .i64 8, .int .i64 16]) (.int .i64 2)).run Tryd.prog w = .ok (.int .i64 16) w := fun _ => by kernel_rfl
  go_enter Tryd.func72, Tryd.ntmps72
  go_wp2_with (first | (go_at_call 71; ((with_reducible refine (rgt_t s _ (by omega) (by omega)).mono ?_); rintro e w' ⟨rfl, rfl⟩)) | (go_at_call 96; ((with_reducible refine (taken_any s _ (by omega) (by omega)).mono ?_); rintro e w' ⟨rfl, rfl⟩)))
  refine wp_loop_rounds 4 ?_
  repeat any_goals (rw [rounds_succ]; go_wp2_with (first | (go_at_call 71; ((with_reducible refine (rgt_t s _ (by omega) (by omega)).mono ?_); rintro e w' ⟨rfl, rfl⟩)) | (go_at_call 96; ((with_reducible refine (taken_any s _ (by omega) (by omega)).mono ?_); rintro e w' ⟨rfl, rfl⟩))))
  go_ret
  exact ⟨rfl, rfl⟩
set_option maxHeartbeats 800000 in
theorem of_3 (s : Int) (w : World) (ht : Tab w) (h1 : 15 ≤ s) (h2 : s ≤ 4096) : Calls Tryd.prog 72 #[.int .i64 s] w fun e w' => e = .returned (.int .i64 (-1)) ∧ w = w' := by
  obtain ⟨t0, t1, t2⟩ := ht
  have i0 : ∀ w, (Instr.index 119 (.agg #[.int .i64 4, .int .i64 8, .int .i64 16]) (.int .i64 0)).run Tryd.prog w = .ok (.int .i64 4) w := fun _ => by kernel_rfl
  have i1 : ∀ w, (Instr.index 119 (.agg #[.int .i64 4, .int .i64 8, .int .i64 16]) (.int .i64 1)).run Tryd.prog w = .ok (.int .i64 8) w := fun _ => by kernel_rfl
  have i2 : ∀ w, (Instr.index 119 (.agg #[.int .i64 4, .int .i64 8, .int .i64 16]) (.int .i64 2)).run Tryd.prog w = .ok (.int .i64 16) w := fun _ => by kernel_rfl
  go_enter Tryd.func72, Tryd.ntmps72
  go_wp2_with (first | (go_at_call 71; ((with_reducible refine (rgt_t s _ (by omega) (by omega)).mono ?_); rintro e w' ⟨rfl, rfl⟩)) | (go_at_call 96; ((with_reducible refine (taken_any s _ (by omega) (by omega)).mono ?_); rintro e w' ⟨rfl, rfl⟩)))
  refine wp_loop_rounds 4 ?_
  repeat any_goals (rw [rounds_succ]; go_wp2_with (first | (go_at_call 71; ((with_reducible refine (rgt_t s _ (by omega) (by omega)).mono ?_); rintro e w' ⟨rfl, rfl⟩)) | (go_at_call 96; ((with_reducible refine (taken_any s _ (by omega) (by omega)).mono ?_); rintro e w' ⟨rfl, rfl⟩))))
  go_ret
  exact ⟨rfl, rfl⟩
set_option maxHeartbeats 800000 in
theorem of_4 (s : Int) (w : World) (ht : Tab w) (h1 : 4097 ≤ s) : Calls Tryd.prog 72 #[.int .i64 s] w fun e w' => e = .returned (.int .i64 (-1)) ∧ w = w' := by
  obtain ⟨t0, t1, t2⟩ := ht
  go_enter Tryd.func72, Tryd.ntmps72
  go_wp2_with (first | (go_at_call 71; ((with_reducible refine (rgt_f s _ (by omega)).mono ?_); rintro e w' ⟨rfl, rfl⟩)))
  go_ret
  exact ⟨rfl, rfl⟩
set_option maxHeartbeats 800000 in
theorem of_5 (s : Int) (w : World) (ht : Tab w) (h1 : s ≤ -1) : Calls Tryd.prog 72 #[.int .i64 s] w fun e w' => e = .returned (.int .i64 (-1)) ∧ w = w' := by
  obtain ⟨t0, t1, t2⟩ := ht
  go_enter Tryd.func72, Tryd.ntmps72
  go_wp2_with (first | (go_at_call 71; ((with_reducible refine (rgt_f s _ (by omega)).mono ?_); rintro e w' ⟨rfl, rfl⟩)))
  go_ret
  exact ⟨rfl, rfl⟩
theorem of_any (s : Int) (w : World) (ht : Tab w) : Calls Tryd.prog 72 #[.int .i64 s] w fun e w' => e = .returned (.int .i64 (clsI s)) ∧ w = w' := by
  by_cases a1 : s < 0
  · rw [show clsI s = -1 by simp [clsI, a1]]; exact of_5 s w ht (by omega)
  by_cases a2 : s ≤ 2
  · rw [show clsI s = 0 by simp [clsI, a1, a2]]; exact of_0 s w ht (by omega) a2
  by_cases a3 : s ≤ 6
  · rw [show clsI s = 1 by simp [clsI, a1, a2, a3]]; exact of_1 s w ht (by omega) a3
  by_cases a4 : s ≤ 14
  · rw [show clsI s = 2 by simp [clsI, a1, a2, a3, a4]]; exact of_2 s w ht (by omega) a4
  rw [show clsI s = -1 by simp [clsI, a1, a2, a3, a4]]
  by_cases a5 : s ≤ 4096
  · exact of_3 s w ht (by omega) a5
  · exact of_4 s w ht (by omega)
set_option maxHeartbeats 800000 in
theorem refOf_0 (s : Int) (w : World) (h1 : 0 ≤ s) (h2 : s ≤ 2) : Calls Tryd.prog 57 #[.int .i64 s] w fun e w' => e = .returned (.int .i64 0) ∧ w = w' := by
  go_enter Tryd.func57, Tryd.ntmps57
  go_wp2_with (first | (go_at_call 76; ((with_reducible refine (refRgt_t s _ (by omega) (by omega)).mono ?_); rintro e w' ⟨rfl, rfl⟩)) | (go_at_call 34; ((with_reducible refine (refBlk_0 0 _ rfl).mono ?_); rintro e w' ⟨rfl, rfl⟩)) | (go_at_call 34; ((with_reducible refine (refBlk_1 1 _ rfl).mono ?_); rintro e w' ⟨rfl, rfl⟩)) | (go_at_call 34; ((with_reducible refine (refBlk_2 2 _ rfl).mono ?_); rintro e w' ⟨rfl, rfl⟩)))
  refine wp_loop_rounds 4 ?_
  repeat any_goals (rw [rounds_succ]; go_wp2_with (first | (go_at_call 76; ((with_reducible refine (refRgt_t s _ (by omega) (by omega)).mono ?_); rintro e w' ⟨rfl, rfl⟩)) | (go_at_call 34; ((with_reducible refine (refBlk_0 0 _ rfl).mono ?_); rintro e w' ⟨rfl, rfl⟩)) | (go_at_call 34; ((with_reducible refine (refBlk_1 1 _ rfl).mono ?_); rintro e w' ⟨rfl, rfl⟩)) | (go_at_call 34; ((with_reducible refine (refBlk_2 2 _ rfl).mono ?_); rintro e w' ⟨rfl, rfl⟩))))
  go_ret
  exact ⟨rfl, rfl⟩
set_option maxHeartbeats 800000 in
theorem refOf_1 (s : Int) (w : World) (h1 : 3 ≤ s) (h2 : s ≤ 6) : Calls Tryd.prog 57 #[.int .i64 s] w fun e w' => e = .returned (.int .i64 1) ∧ w = w' := by
  go_enter Tryd.func57, Tryd.ntmps57
  go_wp2_with (first | (go_at_call 76; ((with_reducible refine (refRgt_t s _ (by omega) (by omega)).mono ?_); rintro e w' ⟨rfl, rfl⟩)) | (go_at_call 34; ((with_reducible refine (refBlk_0 0 _ rfl).mono ?_); rintro e w' ⟨rfl, rfl⟩)) | (go_at_call 34; ((with_reducible refine (refBlk_1 1 _ rfl).mono ?_); rintro e w' ⟨rfl, rfl⟩)) | (go_at_call 34; ((with_reducible refine (refBlk_2 2 _ rfl).mono ?_); rintro e w' ⟨rfl, rfl⟩)))
  refine wp_loop_rounds 4 ?_
  repeat any_goals (rw [rounds_succ]; go_wp2_with (first | (go_at_call 76; ((with_reducible refine (refRgt_t s _ (by omega) (by omega)).mono ?_); rintro e w' ⟨rfl, rfl⟩)) | (go_at_call 34; ((with_reducible refine (refBlk_0 0 _ rfl).mono ?_); rintro e w' ⟨rfl, rfl⟩)) | (go_at_call 34; ((with_reducible refine (refBlk_1 1 _ rfl).mono ?_); rintro e w' ⟨rfl, rfl⟩)) | (go_at_call 34; ((with_reducible refine (refBlk_2 2 _ rfl).mono ?_); rintro e w' ⟨rfl, rfl⟩))))
  go_ret
  exact ⟨rfl, rfl⟩
set_option maxHeartbeats 800000 in
theorem refOf_2 (s : Int) (w : World) (h1 : 7 ≤ s) (h2 : s ≤ 14) : Calls Tryd.prog 57 #[.int .i64 s] w fun e w' => e = .returned (.int .i64 2) ∧ w = w' := by
  go_enter Tryd.func57, Tryd.ntmps57
  go_wp2_with (first | (go_at_call 76; ((with_reducible refine (refRgt_t s _ (by omega) (by omega)).mono ?_); rintro e w' ⟨rfl, rfl⟩)) | (go_at_call 34; ((with_reducible refine (refBlk_0 0 _ rfl).mono ?_); rintro e w' ⟨rfl, rfl⟩)) | (go_at_call 34; ((with_reducible refine (refBlk_1 1 _ rfl).mono ?_); rintro e w' ⟨rfl, rfl⟩)) | (go_at_call 34; ((with_reducible refine (refBlk_2 2 _ rfl).mono ?_); rintro e w' ⟨rfl, rfl⟩)))
  refine wp_loop_rounds 4 ?_
  repeat any_goals (rw [rounds_succ]; go_wp2_with (first | (go_at_call 76; ((with_reducible refine (refRgt_t s _ (by omega) (by omega)).mono ?_); rintro e w' ⟨rfl, rfl⟩)) | (go_at_call 34; ((with_reducible refine (refBlk_0 0 _ rfl).mono ?_); rintro e w' ⟨rfl, rfl⟩)) | (go_at_call 34; ((with_reducible refine (refBlk_1 1 _ rfl).mono ?_); rintro e w' ⟨rfl, rfl⟩)) | (go_at_call 34; ((with_reducible refine (refBlk_2 2 _ rfl).mono ?_); rintro e w' ⟨rfl, rfl⟩))))
  go_ret
  exact ⟨rfl, rfl⟩
set_option maxHeartbeats 800000 in
theorem refOf_3 (s : Int) (w : World) (h1 : 15 ≤ s) (h2 : s ≤ 4096) : Calls Tryd.prog 57 #[.int .i64 s] w fun e w' => e = .returned (.int .i64 (-1)) ∧ w = w' := by
  go_enter Tryd.func57, Tryd.ntmps57
  go_wp2_with (first | (go_at_call 76; ((with_reducible refine (refRgt_t s _ (by omega) (by omega)).mono ?_); rintro e w' ⟨rfl, rfl⟩)) | (go_at_call 34; ((with_reducible refine (refBlk_0 0 _ rfl).mono ?_); rintro e w' ⟨rfl, rfl⟩)) | (go_at_call 34; ((with_reducible refine (refBlk_1 1 _ rfl).mono ?_); rintro e w' ⟨rfl, rfl⟩)) | (go_at_call 34; ((with_reducible refine (refBlk_2 2 _ rfl).mono ?_); rintro e w' ⟨rfl, rfl⟩)))
  refine wp_loop_rounds 4 ?_
  repeat any_goals (rw [rounds_succ]; go_wp2_with (first | (go_at_call 76; ((with_reducible refine (refRgt_t s _ (by omega) (by omega)).mono ?_); rintro e w' ⟨rfl, rfl⟩)) | (go_at_call 34; ((with_reducible refine (refBlk_0 0 _ rfl).mono ?_); rintro e w' ⟨rfl, rfl⟩)) | (go_at_call 34; ((with_reducible refine (refBlk_1 1 _ rfl).mono ?_); rintro e w' ⟨rfl, rfl⟩)) | (go_at_call 34; ((with_reducible refine (refBlk_2 2 _ rfl).mono ?_); rintro e w' ⟨rfl, rfl⟩))))
  go_ret
  exact ⟨rfl, rfl⟩
set_option maxHeartbeats 800000 in
theorem refOf_4 (s : Int) (w : World) (h1 : 4097 ≤ s) : Calls Tryd.prog 57 #[.int .i64 s] w fun e w' => e = .returned (.int .i64 (-1)) ∧ w = w' := by
  go_enter Tryd.func57, Tryd.ntmps57
  go_wp2_with (first | (go_at_call 76; ((with_reducible refine (refRgt_f s _ (by omega)).mono ?_); rintro e w' ⟨rfl, rfl⟩)) | (go_at_call 34; ((with_reducible refine (refBlk_0 0 _ rfl).mono ?_); rintro e w' ⟨rfl, rfl⟩)) | (go_at_call 34; ((with_reducible refine (refBlk_1 1 _ rfl).mono ?_); rintro e w' ⟨rfl, rfl⟩)) | (go_at_call 34; ((with_reducible refine (refBlk_2 2 _ rfl).mono ?_); rintro e w' ⟨rfl, rfl⟩)))
  refine wp_loop_rounds 4 ?_
  repeat any_goals (rw [rounds_succ]; go_wp2_with (first | (go_at_call 76; ((with_reducible refine (refRgt_f s _ (by omega)).mono ?_); rintro e w' ⟨rfl, rfl⟩)) | (go_at_call 34; ((with_reducible refine (refBlk_0 0 _ rfl).mono ?_); rintro e w' ⟨rfl, rfl⟩)) | (go_at_call 34; ((with_reducible refine (refBlk_1 1 _ rfl).mono ?_); rintro e w' ⟨rfl, rfl⟩)) | (go_at_call 34; ((with_reducible refine (refBlk_2 2 _ rfl).mono ?_); rintro e w' ⟨rfl, rfl⟩))))
  go_ret
  exact ⟨rfl, rfl⟩
set_option maxHeartbeats 800000 in
theorem refOf_5 (s : Int) (w : World) (h1 : s ≤ -1) : Calls Tryd.prog 57 #[.int .i64 s] w fun e w' => e = .returned (.int .i64 (-1)) ∧ w = w' := by
  go_enter Tryd.func57, Tryd.ntmps57
  go_wp2_with (first | (go_at_call 76; ((with_reducible refine (refRgt_f s _ (by omega)).mono ?_); rintro e w' ⟨rfl, rfl⟩)) | (go_at_call 34; ((with_reducible refine (refBlk_0 0 _ rfl).mono ?_); rintro e w' ⟨rfl, rfl⟩)) | (go_at_call 34; ((with_reducible refine (refBlk_1 1 _ rfl).mono ?_); rintro e w' ⟨rfl, rfl⟩)) | (go_at_call 34; ((with_reducible refine (refBlk_2 2 _ rfl).mono ?_); rintro e w' ⟨rfl, rfl⟩)))
  refine wp_loop_rounds 4 ?_
  repeat any_goals (rw [rounds_succ]; go_wp2_with (first | (go_at_call 76; ((with_reducible refine (refRgt_f s _ (by omega)).mono ?_); rintro e w' ⟨rfl, rfl⟩)) | (go_at_call 34; ((with_reducible refine (refBlk_0 0 _ rfl).mono ?_); rintro e w' ⟨rfl, rfl⟩)) | (go_at_call 34; ((with_reducible refine (refBlk_1 1 _ rfl).mono ?_); rintro e w' ⟨rfl, rfl⟩)) | (go_at_call 34; ((with_reducible refine (refBlk_2 2 _ rfl).mono ?_); rintro e w' ⟨rfl, rfl⟩))))
  go_ret
  exact ⟨rfl, rfl⟩
theorem refOf_any (s : Int) (w : World) : Calls Tryd.prog 57 #[.int .i64 s] w fun e w' => e = .returned (.int .i64 (clsI s)) ∧ w = w' := by
  by_cases a1 : s < 0
  · rw [show clsI s = -1 by simp [clsI, a1]]; exact refOf_5 s w (by omega)
  by_cases a2 : s ≤ 2
  · rw [show clsI s = 0 by simp [clsI, a1, a2]]; exact refOf_0 s w (by omega) a2
  by_cases a3 : s ≤ 6
  · rw [show clsI s = 1 by simp [clsI, a1, a2, a3]]; exact refOf_1 s w (by omega) a3
  by_cases a4 : s ≤ 14
  · rw [show clsI s = 2 by simp [clsI, a1, a2, a3, a4]]; exact refOf_2 s w (by omega) a4
  rw [show clsI s = -1 by simp [clsI, a1, a2, a3, a4]]
  by_cases a5 : s ≤ 4096
  · exact refOf_3 s w (by omega) a5
  · exact refOf_4 s w (by omega)
set_option maxHeartbeats 800000 in
theorem chk_0 (s : Int) (w : World) (ht : Tab w) (h1 : 0 ≤ s) (h2 : s ≤ 2) : Calls Tryd.prog 75 #[.int .i64 s] w fun e w' => e = .returned (.int .i64 0) ∧ w = w' := by
  go_enter Tryd.func75, Tryd.ntmps75
  go_wp2_with (first | (go_at_call 71; ((with_reducible refine (rgt_t s _ (by omega) (by omega)).mono ?_); rintro e w' ⟨rfl, rfl⟩)) | (go_at_call 72; ((with_reducible refine (of_0 s _ ht h1 h2).mono ?_); rintro e w' ⟨rfl, rfl⟩)) | (go_at_call 96; ((with_reducible refine (taken_any s _ (by omega) (by omega)).mono ?_); rintro e w' ⟨rfl, rfl⟩)))
  go_ret
  exact ⟨rfl, rfl⟩
set_option maxHeartbeats 800000 in
theorem chk_1 (s : Int) (w : World) (ht : Tab w) (h1 : 3 ≤ s) (h2 : s ≤ 6) : Calls Tryd.prog 75 #[.int .i64 s] w fun e w' => e = .returned (.int .i64 0) ∧ w = w' := by
  go_enter Tryd.func75, Tryd.ntmps75
  go_wp2_with (first | (go_at_call 71; ((with_reducible refine (rgt_t s _ (by omega) (by omega)).mono ?_); rintro e w' ⟨rfl, rfl⟩)) | (go_at_call 72; ((with_reducible refine (of_1 s _ ht h1 h2).mono ?_); rintro e w' ⟨rfl, rfl⟩)) | (go_at_call 96; ((with_reducible refine (taken_any s _ (by omega) (by omega)).mono ?_); rintro e w' ⟨rfl, rfl⟩)))
  go_ret
  exact ⟨rfl, rfl⟩
set_option maxHeartbeats 800000 in
theorem chk_2 (s : Int) (w : World) (ht : Tab w) (h1 : 7 ≤ s) (h2 : s ≤ 14) : Calls Tryd.prog 75 #[.int .i64 s] w fun e w' => e = .returned (.int .i64 0) ∧ w = w' := by
  go_enter Tryd.func75, Tryd.ntmps75
  go_wp2_with (first | (go_at_call 71; ((with_reducible refine (rgt_t s _ (by omega) (by omega)).mono ?_); rintro e w' ⟨rfl, rfl⟩)) | (go_at_call 72; ((with_reducible refine (of_2 s _ ht h1 h2).mono ?_); rintro e w' ⟨rfl, rfl⟩)) | (go_at_call 96; ((with_reducible refine (taken_any s _ (by omega) (by omega)).mono ?_); rintro e w' ⟨rfl, rfl⟩)))
  go_ret
  exact ⟨rfl, rfl⟩
set_option maxHeartbeats 800000 in
theorem chk_3 (s : Int) (w : World) (ht : Tab w) (h1 : 15 ≤ s) (h2 : s ≤ 4096) : Calls Tryd.prog 75 #[.int .i64 s] w fun e w' => e = .returned (.int .i64 ((s + 33) / 32)) ∧ w = w' := by
  go_enter Tryd.func75, Tryd.ntmps75
  go_wp2_with (first | (go_at_call 71; ((with_reducible refine (rgt_t s _ (by omega) (by omega)).mono ?_); rintro e w' ⟨rfl, rfl⟩)) | (go_at_call 72; ((with_reducible refine (of_3 s _ ht h1 h2).mono ?_); rintro e w' ⟨rfl, rfl⟩)) | (go_at_call 96; ((with_reducible refine (taken_any s _ (by omega) (by omega)).mono ?_); rintro e w' ⟨rfl, rfl⟩)))
  go_ret
  exact ⟨ret_i (by omega), rfl⟩
set_option maxHeartbeats 800000 in
theorem chk_4 (s : Int) (w : World) (ht : Tab w) (h1 : 4097 ≤ s) : Calls Tryd.prog 75 #[.int .i64 s] w fun e w' => e = .returned (.int .i64 0) ∧ w = w' := by
  go_enter Tryd.func75, Tryd.ntmps75
  go_wp2_with (first | (go_at_call 71; ((with_reducible refine (rgt_f s _ (by omega)).mono ?_); rintro e w' ⟨rfl, rfl⟩)) | (go_at_call 72; ((with_reducible refine (of_4 s _ ht h1).mono ?_); rintro e w' ⟨rfl, rfl⟩)) | (go_at_call 96; ((with_reducible refine (taken_any s _ (by omega) (by omega)).mono ?_); rintro e w' ⟨rfl, rfl⟩)))
  go_ret
  exact ⟨rfl, rfl⟩
set_option maxHeartbeats 800000 in
theorem chk_5 (s : Int) (w : World) (ht : Tab w) (h1 : s ≤ -1) : Calls Tryd.prog 75 #[.int .i64 s] w fun e w' => e = .returned (.int .i64 0) ∧ w = w' := by
  go_enter Tryd.func75, Tryd.ntmps75
  go_wp2_with (first | (go_at_call 71; ((with_reducible refine (rgt_f s _ (by omega)).mono ?_); rintro e w' ⟨rfl, rfl⟩)) | (go_at_call 72; ((with_reducible refine (of_5 s _ ht h1).mono ?_); rintro e w' ⟨rfl, rfl⟩)) | (go_at_call 96; ((with_reducible refine (taken_any s _ (by omega) (by omega)).mono ?_); rintro e w' ⟨rfl, rfl⟩)))
  go_ret
  exact ⟨rfl, rfl⟩
theorem chk_any (s : Int) (w : World) (ht : Tab w) : Calls Tryd.prog 75 #[.int .i64 s] w fun e w' => e = .returned (.int .i64 (chkI s)) ∧ w = w' := by
  by_cases a4 : 15 ≤ s ∧ s ≤ 4096
  · rw [show chkI s = (s + 33) / 32 by simp [chkI, a4]]; exact chk_3 s w ht a4.1 a4.2
  rw [show chkI s = 0 by simp only [chkI, a4, if_false]]
  by_cases a1 : s < 0
  · exact chk_5 s w ht (by omega)
  by_cases a2 : s ≤ 2
  · exact chk_0 s w ht (by omega) a2
  by_cases a3 : s ≤ 6
  · exact chk_1 s w ht (by omega) a3
  by_cases a5 : s ≤ 14
  · exact chk_2 s w ht (by omega) a5
  · exact chk_4 s w ht (by omega)
set_option maxHeartbeats 800000 in
theorem refChk_0 (s : Int) (w : World) (h1 : 0 ≤ s) (h2 : s ≤ 2) : Calls Tryd.prog 56 #[.int .i64 s] w fun e w' => e = .returned (.int .i64 0) ∧ w = w' := by
  go_enter Tryd.func56, Tryd.ntmps56
  go_wp2_with (first | (go_at_call 76; ((with_reducible refine (refRgt_t s _ (by omega) (by omega)).mono ?_); rintro e w' ⟨rfl, rfl⟩)) | (go_at_call 57; ((with_reducible refine (refOf_0 s _ h1 h2).mono ?_); rintro e w' ⟨rfl, rfl⟩)))
  refine wp_loop_rounds 1 ?_
  rw [rounds_succ]
  go_wp2_with (go_at_call 57; ((with_reducible refine (refOf_0 s _ h1 h2).mono ?_); rintro e w' ⟨rfl, rfl⟩))
  go_ret
  exact ⟨rfl, rfl⟩
set_option maxHeartbeats 800000 in
theorem refChk_1 (s : Int) (w : World) (h1 : 3 ≤ s) (h2 : s ≤ 6) : Calls Tryd.prog 56 #[.int .i64 s] w fun e w' => e = .returned (.int .i64 0) ∧ w = w' := by
  go_enter Tryd.func56, Tryd.ntmps56
  go_wp2_with (first | (go_at_call 76; ((with_reducible refine (refRgt_t s _ (by omega) (by omega)).mono ?_); rintro e w' ⟨rfl, rfl⟩)) | (go_at_call 57; ((with_reducible refine (refOf_1 s _ h1 h2).mono ?_); rintro e w' ⟨rfl, rfl⟩)))
  refine wp_loop_rounds 1 ?_
  rw [rounds_succ]
  go_wp2_with (go_at_call 57; ((with_reducible refine (refOf_1 s _ h1 h2).mono ?_); rintro e w' ⟨rfl, rfl⟩))
  go_ret
  exact ⟨rfl, rfl⟩
set_option maxHeartbeats 800000 in
theorem refChk_2 (s : Int) (w : World) (h1 : 7 ≤ s) (h2 : s ≤ 14) : Calls Tryd.prog 56 #[.int .i64 s] w fun e w' => e = .returned (.int .i64 0) ∧ w = w' := by
  go_enter Tryd.func56, Tryd.ntmps56
  go_wp2_with (first | (go_at_call 76; ((with_reducible refine (refRgt_t s _ (by omega) (by omega)).mono ?_); rintro e w' ⟨rfl, rfl⟩)) | (go_at_call 57; ((with_reducible refine (refOf_2 s _ h1 h2).mono ?_); rintro e w' ⟨rfl, rfl⟩)))
  refine wp_loop_rounds 1 ?_
  rw [rounds_succ]
  go_wp2_with (go_at_call 57; ((with_reducible refine (refOf_2 s _ h1 h2).mono ?_); rintro e w' ⟨rfl, rfl⟩))
  go_ret
  exact ⟨rfl, rfl⟩
set_option maxHeartbeats 800000 in
theorem refChk_3 (s : Int) (w : World) (h1 : 15 ≤ s) (h2 : s ≤ 4096) : Calls Tryd.prog 56 #[.int .i64 s] w fun e w' => e = .returned (.int .i64 ((s + 33) / 32)) ∧ w = w' := by
  go_enter Tryd.func56, Tryd.ntmps56
  go_wp2_with (first | (go_at_call 76; ((with_reducible refine (refRgt_t s _ (by omega) (by omega)).mono ?_); rintro e w' ⟨rfl, rfl⟩)) | (go_at_call 57; ((with_reducible refine (refOf_3 s _ h1 h2).mono ?_); rintro e w' ⟨rfl, rfl⟩)))
  go_loop [4] (fun n => ∃ k : Nat, n = .int .i64 k ∧ (k = 0 ∨ 32 * ((k : Int) - 1) < s + 2)) (fun n => 200 - (intOf n).toNat)
  case atStart => exact ⟨0, rfl, .inl rfl⟩
  case round =>
    obtain ⟨k, rfl, hk⟩ := hrel
    have hk2 : (k : Int) ≤ 190 := by omega
    by_cases hlt : 32 * (k : Int) < s + 2
    · clear hk
      go_wp2_with (go_at_call 57; ((with_reducible refine (refOf_3 s _ h1 h2).mono ?_); rintro e w' ⟨rfl, rfl⟩))
      go_round
      case rel => exact ⟨k + 1, by go_num, .inr (by omega)⟩
      case measure => simp [intOf]; omega
    · have Hk := Lib.hid hk
      clear hk
      go_wp2_with (go_at_call 57; ((with_reducible refine (refOf_3 s _ h1 h2).mono ?_); rintro e w' ⟨rfl, rfl⟩))
      go_ret
      have hk := Hk.out
      exact ⟨ret_i (by omega), rfl⟩
set_option maxHeartbeats 800000 in
theorem refChk_4 (s : Int) (w : World) (h1 : 4097 ≤ s) : Calls Tryd.prog 56 #[.int .i64 s] w fun e w' => e = .returned (.int .i64 0) ∧ w = w' := by
  go_enter Tryd.func56, Tryd.ntmps56
  go_wp2_with (first | (go_at_call 76; ((with_reducible refine (refRgt_f s _ (by omega)).mono ?_); rintro e w' ⟨rfl, rfl⟩)) | (go_at_call 57; ((with_reducible refine (refOf_4 s _ h1).mono ?_); rintro e w' ⟨rfl, rfl⟩)))
  refine wp_loop_rounds 1 ?_
  rw [rounds_succ]
  go_wp2_with (go_at_call 57; ((with_reducible refine (refOf_4 s _ h1).mono ?_); rintro e w' ⟨rfl, rfl⟩))
  go_ret
  exact ⟨rfl, rfl⟩
set_option maxHeartbeats 800000 in
theorem refChk_5 (s : Int) (w : World) (h1 : s ≤ -1) : Calls Tryd.prog 56 #[.int .i64 s] w fun e w' => e = .returned (.int .i64 0) ∧ w = w' := by
  go_enter Tryd.func56, Tryd.ntmps56
  go_wp2_with (first | (go_at_call 76; ((with_reducible refine (refRgt_f s _ (by omega)).mono ?_); rintro e w' ⟨rfl, rfl⟩)) | (go_at_call 57; ((with_reducible refine (refOf_5 s _ h1).mono ?_); rintro e w' ⟨rfl, rfl⟩)))
  refine wp_loop_rounds 1 ?_
  rw [rounds_succ]
  go_wp2_with (go_at_call 57; ((with_reducible refine (refOf_5 s _ h1).mono ?_); rintro e w' ⟨rfl, rfl⟩))
  go_ret
  exact ⟨rfl, rfl⟩
theorem refChk_any (s : Int) (w : World) : Calls Tryd.prog 56 #[.int .i64 s] w fun e w' => e = .returned (.int .i64 (chkI s)) ∧ w = w' := by
  by_cases a4 : 15 ≤ s ∧ s ≤ 4096
  · rw [show chkI s = (s + 33) / 32 by simp [chkI, a4]]; exact refChk_3 s w a4.1 a4.2
  rw [show chkI s = 0 by simp only [chkI, a4, if_false]]
  by_cases a1 : s < 0
  · exact refChk_5 s w (by omega)
  by_cases a2 : s ≤ 2
  · exact refChk_0 s w (by omega) a2
  by_cases a3 : s ≤ 6
  · exact refChk_1 s w (by omega) a3
  by_cases a5 : s ≤ 14
  · exact refChk_2 s w (by omega) a5
  · exact refChk_4 s w (by omega)
end Go.Proofs.YtnjifmecaeagaaaDoor
end
section
set_option linter.unusedVariables false
set_option linter.unusedSimpArgs false
namespace Go.Proofs.YtnjifmecaeagaaaDoor
open Go.Lib Go.RowKit Go.ChangeShapes Go.WideShapes Go.Deep

def plcV : Option Plc → Value
  | none => plV 0 0 0 0 false
  | some p => plV (p.ch : Nat) (p.ix : Nat) p.cl (p.mn : Nat) p.fr
theorem plc_form (r : Option Plc) : ∃ a b c d f, plcV r = plV a b c d f := by
  cases r with
  | none => exact ⟨_, _, _, _, _, rfl⟩
  | some p => exact ⟨_, _, _, _, _, rfl⟩
def TakeP (w : World) (base B : Nat) (v : Value) (S : List St) (o : Option Nat) (m : Nat) (e : Ending) (w' : World) : Prop :=
  ∃ S' r, TakeR S o m S' r ∧ e = .returned (.tuple #[plcV r, .int .i64 (if r.isSome then 0 else 2)]) ∧ IxAt w' base B v S' ∧ Chg (fun k => v.ownBlock = some k) w w'
theorem takeBlock_any {w : World} {base B : Nat} {v : Value} {S : List St} (hI : IxAt w base B v S) (hS : SOk S) (hl : S.length ≤ 10000) (hw : Lw w) (c : Nat) (hc : c < 3) (m : Nat) :
    Calls Tryd.prog 73 #[.pointer (some ⟨B, 0, none⟩), .int .i64 (c : Nat)] w (TakeP w base B v S (some c) m) := by
  cases hr : (runsTo S c S.length).head? with
  | some i =>
    obtain ⟨h1, h2, h3⟩ := head_filter hr
    have h4 := h2
    unfold runAt at h4
    simp only [Bool.and_eq_true, decide_eq_true_eq] at h4
    obtain ⟨⟨k1, kc⟩, hs⟩ := h4
    obtain ⟨j, hj⟩ := Option.isSome_iff_exists.1 hs
    refine (takeBlock_run hI hS hl hw c hc hr hj).mono ?_
    rintro e w2 ⟨rfl, hI2, hC2⟩
    exact ⟨_, _, TakeR.run h1 k1 kc hj h3, rfl, hI2, hC2⟩
  | none =>
    have hn := none_filter hr
    cases hr2 : (rowsTo S 1 S.length).head? with
    | some i =>
      obtain ⟨q1, q2⟩ := rows_head (Nat.le_refl 1) hr2
      refine (takeBlock_fresh hI hS hl hw c hc hr hr2).mono ?_
      rintro e w2 ⟨rfl, hI2, hC2⟩
      exact ⟨_, _, TakeR.fresh hn q1 q2, rfl, hI2, hC2⟩
    | none =>
      refine (takeBlock_full hI hS hl hw c hc hr hr2).mono ?_
      rintro e w2 ⟨rfl, hb⟩
      exact ⟨_, _, TakeR.full hn (rows_none (Nat.le_refl 1) hr2), rfl, hI.keep hb, Chg.of_below _ hb⟩
theorem takeHuge_any {w : World} {base B : Nat} {v : Value} {S : List St} (hI : IxAt w base B v S) (hS : SOk S) (hl : S.length ≤ 10000) (hw : Lw w) (m : Nat) (hm : 1 ≤ m) (hm2 : m ≤ 8191) :
    Calls Tryd.prog 74 #[.pointer (some ⟨B, 0, none⟩), .int .i64 (m : Nat)] w (TakeP w base B v S none m) := by
  cases hr : (rowsTo S m S.length).head? with
  | some a =>
    obtain ⟨q1, q2⟩ := rows_head hm hr
    refine (takeHuge_yes hI hS hl m hm hm2 hr).mono ?_
    rintro e w2 ⟨rfl, hI2, hC2⟩
    exact ⟨_, _, TakeR.huge q1 q2, rfl, hI2, hC2⟩
  | none =>
    refine (takeHuge_no hI hS hl m hm hm2 hr).mono ?_
    rintro e w2 ⟨rfl, hb⟩
    exact ⟨_, _, TakeR.fullH (rows_none hm hr), rfl, hI.keep hb, Chg.of_below _ hb⟩
/-- an object's class, and how many chunks it has, at least one -/
def ofN (n : Nat) : Option Nat := if n ≤ 2 then some 0 else if n ≤ 6 then some 1 else if n ≤ 14 then some 2 else none
def chN (n : Nat) : Nat := (n + 33) / 32
theorem ofN_some {n c : Nat} (h : ofN n = some c) : c < 3 ∧ clsI (n : Nat) = (c : Nat) ∧ n ≤ 14 := by
  unfold ofN at h
  unfold clsI
  rw [if_neg (by omega)]
  split at h
  · cases h; exact ⟨by omega, by rw [if_pos (by omega)]; rfl, by omega⟩
  · split at h
    · cases h; exact ⟨by omega, by rw [if_neg (by omega), if_pos (by omega)]; rfl, by omega⟩
    · split at h
      · cases h; exact ⟨by omega, by rw [if_neg (by omega), if_neg (by omega), if_pos (by omega)]; rfl, by omega⟩
      · cases h
theorem ofN_none {n : Nat} (h : ofN n = none) : clsI (n : Nat) = -1 ∧ 15 ≤ n := by
  have h15 : 15 ≤ n := by
    unfold ofN at h
    split at h
    · cases h
    · split at h
      · cases h
      · split at h
        · cases h
        · omega
  unfold clsI
  exact ⟨by rw [if_neg (by omega), if_neg (by omega), if_neg (by omega), if_neg (by omega)], h15⟩
theorem chk_N {n : Nat} (h : 15 ≤ n) (h2 : n ≤ 4096) : chkI (n : Nat) = (chN n : Nat) := by
  unfold chkI chN
  rw [if_pos ⟨by omega, by omega⟩]; omega
set_option maxRecDepth 10000 in
set_option maxHeartbeats 1000000 in
theorem take_any {w : World} {base B : Nat} {v : Value} {S : List St} (hI : IxAt w base B v S) (hS : SOk S) (hl : S.length ≤ 10000) (hw : Lw w) (n : Nat) (hn : n ≤ 4096) :
    Calls Tryd.prog 39 #[.pointer (some ⟨B, 0, none⟩), .int .i64 (n : Nat)] w (TakeP w base B v S (ofN n) (chN n)) := by
  have hA := (Below.refl w.heap.size w).alloc (Nat.le_refl _) (.cells #[.int .i64 0, .int .i64 0, .int .i64 0, .int .i64 0, .bool false] 62)
  have hI1 := hI.keep hA
  have hR1 := PlBox.new w
  have hw1 := hw.keep hA
  have hTc : Tab (w.alloc (.cells #[.int .i64 0, .int .i64 0, .int .i64 0, .int .i64 0, .bool false] 62)) := hw1.2.2.1
  obtain ⟨R, hR⟩ : ∃ R, w.heap.size = R := ⟨_, rfl⟩
  have hRv : ¬ v.ownBlock = some R := fun q => by have := (hI.row.lt R q).2; omega
  have hVR : ∀ k, v.ownBlock = some k → ¬ k = R := fun k q e => hRv (by rw [← e]; exact q)
  have hBR : ¬ B = R := by have := hI.box.lt; omega
  rw [hR] at hR1
  have hRg := rgt_t (n : Nat) (w.alloc (.cells #[.int .i64 0, .int .i64 0, .int .i64 0, .int .i64 0, .bool false] 62)) (by omega) (by omega)
  have hOf := of_any (n : Nat) (w.alloc (.cells #[.int .i64 0, .int .i64 0, .int .i64 0, .int .i64 0, .bool false] 62)) hTc
  cases ho : ofN n with
  | some c =>
    obtain ⟨hc, hcl, _⟩ := ofN_some ho
    rw [hcl] at hOf
    have hTk := takeBlock_any hI1 hS hl hw1 c hc (chN n)
    have t0 : decide (0 ≤ (c : Int)) = true := decide_eq_true (by omega)
    generalize hm : chN n = m at *
    clear hw hw1 hTc hI hS hcl ho hm hl
    go_enter Tryd.func39, Tryd.ntmps39
    go_wp2_with (first | (go_at_call 71; ((with_reducible refine hRg.mono ?_); rintro e w' ⟨rfl, rfl⟩)) | (go_at_call 72; ((with_reducible refine hOf.mono ?_); rintro e w' ⟨rfl, rfl⟩)))
    clear hRg hOf
    refine hTk.mono ?_
    clear hTk
    rintro e2 w2 ⟨S', r, hT, rfl, hI2, hC2⟩
    obtain ⟨a, b, c, d, f, hpv⟩ := plc_form r
    rw [hpv]
    generalize hE : (if r.isSome then (0 : Int) else 2) = E at *
    have hRn := hR1.chg hC2 hRv
    have hThR := Lib.hid hRn.there
    obtain ⟨⟨y0, y1, y2, y3, y4⟩, hch⟩ := hRn.put a b c d f
    have hIe := hI2.chg hch hBR hVR
    have hCe := ((Chg.of_below (fun k => v.ownBlock = some k) hA).trans hC2 (fun j q => .inl q)).trans hch (fun j q => .inr (by rw [q, ← hR]; exact Nat.le_refl _))
    obtain ⟨W2, hW2⟩ : ∃ W2, plW w2 R a b c d f = W2 := ⟨_, rfl⟩
    rw [hW2] at y0 y1 y2 y3 y4 hIe hCe
    replace hIe := Lib.hid hIe
    replace hCe := Lib.hid hCe
    replace hW2 := Lib.hid hW2
    replace hpv := Lib.hid hpv
    replace hE := Lib.hid hE
    replace hT := Lib.hid hT
    clear hI2 hC2 hRn hch hR1 hI1 hA hRv hBR hVR
    go_wp2_with (refine wpList_store_mid rfl _ _ _ rfl R 0 #[.int .i64 a, .int .i64 b, .int .i64 c, .int .i64 d, .bool f] rfl rfl hThR.out infoPl5 (one5 _ _ _ _ _) ?_; rw [show (w2).setCells R 0 (#[.int .i64 a, .int .i64 b, .int .i64 c, .int .i64 d, .bool f] : Array Value).toList = W2 from hW2.out])
    refine bodyPost_ret (v := .tuple #[plV a b c d f, .int .i64 E]) ?_ rfl ⟨S', r, hT.out, by rw [hpv.out, hE.out], hIe.out, hCe.out⟩
    simp [results, Tryd.f39, go_sem, y0, y1, y2, y3, y4]
  | none =>
    obtain ⟨hcl, h15⟩ := ofN_none ho
    rw [hcl] at hOf
    have hCk := chk_any (n : Nat) (w.alloc (.cells #[.int .i64 0, .int .i64 0, .int .i64 0, .int .i64 0, .bool false] 62)) hTc
    rw [chk_N h15 hn] at hCk
    have hTk := takeHuge_any hI1 hS hl hw1 (chN n) (by unfold chN; omega) (by unfold chN; omega)
    generalize hm : chN n = m at *
    clear hw hw1 hTc hI hS hcl ho hm hl
    go_enter Tryd.func39, Tryd.ntmps39
    go_wp2_with (first | (go_at_call 71; ((with_reducible refine hRg.mono ?_); rintro e w' ⟨rfl, rfl⟩)) | (go_at_call 72; ((with_reducible refine hOf.mono ?_); rintro e w' ⟨rfl, rfl⟩)) | (go_at_call 75; ((with_reducible refine hCk.mono ?_); rintro e w' ⟨rfl, rfl⟩)))
    clear hRg hOf hCk
    refine hTk.mono ?_
    clear hTk
    rintro e2 w2 ⟨S', r, hT, rfl, hI2, hC2⟩
    obtain ⟨a, b, c, d, f, hpv⟩ := plc_form r
    rw [hpv]
    generalize hE : (if r.isSome then (0 : Int) else 2) = E at *
    have hRn := hR1.chg hC2 hRv
    have hThR := Lib.hid hRn.there
    obtain ⟨⟨y0, y1, y2, y3, y4⟩, hch⟩ := hRn.put a b c d f
    have hIe := hI2.chg hch hBR hVR
    have hCe := ((Chg.of_below (fun k => v.ownBlock = some k) hA).trans hC2 (fun j q => .inl q)).trans hch (fun j q => .inr (by rw [q, ← hR]; exact Nat.le_refl _))
    obtain ⟨W2, hW2⟩ : ∃ W2, plW w2 R a b c d f = W2 := ⟨_, rfl⟩
    rw [hW2] at y0 y1 y2 y3 y4 hIe hCe
    replace hIe := Lib.hid hIe
    replace hCe := Lib.hid hCe
    replace hW2 := Lib.hid hW2
    replace hpv := Lib.hid hpv
    replace hE := Lib.hid hE
    replace hT := Lib.hid hT
    clear hI2 hC2 hRn hch hR1 hI1 hA hRv hBR hVR
    go_wp2_with (refine wpList_store_mid rfl _ _ _ rfl R 0 #[.int .i64 a, .int .i64 b, .int .i64 c, .int .i64 d, .bool f] rfl rfl hThR.out infoPl5 (one5 _ _ _ _ _) ?_; rw [show (w2).setCells R 0 (#[.int .i64 a, .int .i64 b, .int .i64 c, .int .i64 d, .bool f] : Array Value).toList = W2 from hW2.out])
    refine bodyPost_ret (v := .tuple #[plV a b c d f, .int .i64 E]) ?_ rfl ⟨S', r, hT.out, by rw [hpv.out, hE.out], hIe.out, hCe.out⟩
    simp [results, Tryd.f39, go_sem, y0, y1, y2, y3, y4]
set_option maxRecDepth 10000 in
set_option maxHeartbeats 1000000 in
theorem take_wrong {w : World} {B : Nat} (n : Int) (hn : n < 0 ∨ 4096 < n) :
    Calls Tryd.prog 39 #[.pointer (some ⟨B, 0, none⟩), .int .i64 n] w fun e w' => e = .returned (.tuple #[plV 0 0 0 0 false, .int .i64 1]) ∧ Below w.heap.size w w' := by
  have hA := (Below.refl w.heap.size w).alloc (Nat.le_refl _) (.cells #[.int .i64 0, .int .i64 0, .int .i64 0, .int .i64 0, .bool false] 62)
  have hR1 := PlBox.new w
  have hRg := rgt_f n (w.alloc (.cells #[.int .i64 0, .int .i64 0, .int .i64 0, .int .i64 0, .bool false] 62)) hn
  obtain ⟨R, hR⟩ : ∃ R, w.heap.size = R := ⟨_, rfl⟩
  have hThR := Lib.hid hR1.there
  obtain ⟨⟨y0, y1, y2, y3, y4⟩, hch⟩ := hR1.put 0 0 0 0 false
  have hBW : Below w.heap.size w (plW (w.alloc (.cells #[.int .i64 0, .int .i64 0, .int .i64 0, .int .i64 0, .bool false] 62)) w.heap.size 0 0 0 0 false) := hA.trans (hch.below (fun q h => by omega) hA.size)
  rw [hR] at hThR y0 y1 y2 y3 y4
  obtain ⟨W2, hW2⟩ : ∃ W2, plW (w.alloc (.cells #[.int .i64 0, .int .i64 0, .int .i64 0, .int .i64 0, .bool false] 62)) R 0 0 0 0 false = W2 := ⟨_, rfl⟩
  rw [← hR] at hW2
  rw [hW2] at hBW
  rw [hR] at hW2
  rw [hW2] at y0 y1 y2 y3 y4
  replace hBW := Lib.hid hBW
  replace hW2 := Lib.hid hW2
  clear hch hR1 hA hn
  go_enter Tryd.func39, Tryd.ntmps39
  go_wp2_with (first | (go_at_call 71; ((with_reducible refine hRg.mono ?_); rintro e w' ⟨rfl, rfl⟩)) | (refine wpList_store_mid rfl _ _ _ rfl R 0 #[.int .i64 0, .int .i64 0, .int .i64 0, .int .i64 0, .bool false] rfl rfl hThR.out infoPl5 (one5 _ _ _ _ _) ?_; rw [show ((w.alloc (.cells #[.int .i64 0, .int .i64 0, .int .i64 0, .int .i64 0, .bool false] 62))).setCells R 0 (#[.int .i64 0, .int .i64 0, .int .i64 0, .int .i64 0, .bool false] : Array Value).toList = W2 from hW2.out]))
  refine bodyPost_ret (v := .tuple #[plV 0 0 0 0 false, .int .i64 1]) ?_ rfl ⟨rfl, hBW.out⟩
  simp [results, Tryd.f39, go_sem, y0, y1, y2, y3, y4]
end Go.Proofs.YtnjifmecaeagaaaDoor
end
section
set_option linter.unusedVariables false
set_option linter.unusedSimpArgs false
namespace Go.Proofs.YtnjifmecaeagaaaDoor
/-- nothing is taken -/
def noTk (S : List St) : Prop := ∀ i, (gS S i).2.2 = 0
theorem stN_ok {x : Nat} (h : okN x = true) : StOk (stN x) := by
  have hr := okN_t h
  unfold RightN at hr
  unfold stN
  refine ⟨h, fun k1 => ?_, fun k2 => ?_, fun k1 k2 => ?_⟩
  · simp only [] at k1 ⊢
    rw [if_neg (by omega)]
    have hc : cN x = 0 ∨ cN x = 1 ∨ cN x = 2 := by omega
    refine ⟨?_, Nat.pow_pos (by omega), by rw [Nat.and_zero]⟩
    rcases hc with q | q | q
    · rw [q]; simp [mnN]; omega
    · rw [q]; simp [mnN]; omega
    · rw [q]; simp [mnN]; omega
  · simp only [] at k2 ⊢
    rw [if_pos k2]; simp
  · simp only [] at k1 k2 ⊢
    rw [if_neg k2]; simp; omega
theorem gS_map (t : List Nat) {i : Nat} (h : i < t.length) : gS (t.map stN) i = stN (t.getD i 0) := by
  unfold gS
  rw [List.getD_eq_getElem?_getD, List.getElem?_map, List.getD_eq_getElem?_getD, List.getElem?_eq_getElem h]; rfl
theorem gS_out {S : List St} {i : Nat} (h : S.length ≤ i) : gS S i = (0, 0, 0) := by
  unfold gS
  rw [List.getD_eq_getElem?_getD, List.getElem?_eq_none h]; rfl
theorem gS_map1 (t : List Nat) (i : Nat) : (gS (t.map stN) i).1 = t.getD i 0 := by
  by_cases h : i < t.length
  · rw [gS_map t h]; rfl
  · rw [gS_out (by rw [List.length_map]; omega), List.getD_eq_getElem?_getD, List.getElem?_eq_none (by omega)]; rfl
theorem new_noTk (t : List Nat) : noTk (t.map stN) := fun i => by
  by_cases h : i < t.length
  · rw [gS_map t h]; rfl
  · rw [gS_out (by rw [List.length_map]; omega)]
theorem new_sok {t : List Nat} (h : rightT t = true) : SOk (t.map stN) := by
  obtain ⟨h1, h2⟩ := (right_tiled t).1 h
  refine ⟨fun i hi => ?_, ?_⟩
  · rw [List.length_map] at hi
    rw [gS_map t hi]
    exact stN_ok (all_at h1 hi)
  · rw [List.length_map, show (fun i => (gS (t.map stN) i).1) = fun i => t.getD i 0 from funext (gS_map1 t)]
    exact h2
theorem gone_no {S : List St} (h : noTk S) (i : Nat) : goneB S i = false := by
  cases hg : goneB S i with
  | false => rfl
  | true =>
    obtain ⟨k, _, _, h3, _⟩ := (goneB_iff S i).1 hg
    exact absurd (h k) h3
theorem word_st {x : Nat} (h : okN x = true) : wordS (stN x) = x := by
  have hr := (okN_t h).1
  unfold wordS stN
  simp only []
  by_cases k1 : kN x = 1
  · rw [if_pos k1, if_neg (by omega)]; unfold bN; omega
  · rw [if_neg k1]
theorem table_new {t : List Nat} (h : rightT t = true) : tableS (t.map stN) = t := by
  apply List.ext_getElem?
  intro i
  by_cases hi : i < t.length
  · have h1 := table_at (t.map stN) (i := i) (by rw [List.length_map]; exact hi)
    rw [gone_no (new_noTk t), gS_map t hi, word_st (all_at (rightT_t h).1 hi)] at h1
    have hl : (tableS (t.map stN)).length = t.length := by rw [table_len, List.length_map]
    rw [List.getD_eq_getElem?_getD, List.getD_eq_getElem?_getD, List.getElem?_eq_getElem (by omega), List.getElem?_eq_getElem hi] at h1
    rw [List.getElem?_eq_getElem (by omega), List.getElem?_eq_getElem hi]
    exact congrArg some h1
  · rw [List.getElem?_eq_none (by rw [table_len, List.length_map]; omega), List.getElem?_eq_none (by omega)]
theorem sFrom_new {t : List Nat} (h : rightT t = true) : sFrom 0 (t.map stN) = blksT t := by rw [← blks_table (new_sok h), table_new h]
theorem kN_word (s : St) : kN (wordS s) = kN s.1 := by unfold wordS; split; unfold kN; omega; rfl
theorem cN_word (s : St) : cN (wordS s) = cN s.1 := by unfold wordS; split; unfold cN; omega; rfl
theorem mN_word (s : St) : mN (wordS s) = mN s.1 := by unfold wordS; split; unfold mN; omega; rfl
theorem right_table {S : List St} (h : SOk S) (hn : noTk S) : rightT (tableS S) = true := by
  refine (right_tiled _).2 ⟨table_ok h, ?_⟩
  have hw : ∀ i, i < S.length → (tableS S).getD i 0 = wordS (gS S i) := fun i hi => by rw [table_at S hi, gone_no hn]; rfl
  rw [table_len]
  intro i hi
  obtain ⟨h1, h2⟩ := h.tiled i hi
  simp only [] at h1 h2 ⊢
  rw [hw i hi, kN_word, mN_word]
  refine ⟨?_, h2⟩
  rw [← h1]
  constructor
  · rintro ⟨k, q1, q2, q3⟩
    rw [hw k (by omega), kN_word] at q2
    rw [hw k (by omega), mN_word] at q3
    exact ⟨k, q1, q2, q3⟩
  · rintro ⟨k, q1, q2, q3⟩
    refine ⟨k, q1, ?_, ?_⟩
    · rw [hw k (by omega), kN_word]; exact q2
    · rw [hw k (by omega), mN_word]; exact q3
theorem rowsL_congr {f g : Nat → Bool} : ∀ n, (∀ k, k < n → f k = g k) → rowsL f n = rowsL g n
  | 0, _ => rfl
  | n + 1, h => by
    rw [rowsL, rowsL, rowsL_congr n (fun k hk => h k (by omega)), h n (by omega)]
def rowsS (S : List St) : List (Nat × Nat) := rowsL (fun k => hadS (gS S k)) S.length
theorem may_word {s : St} (hk : StOk s) (ht : s.2.2 = 0) : mayN (wordS s) = hadS s := by
  unfold mayN hadS
  rw [kN_word, ht, Nat.or_zero]
  by_cases k1 : kN s.1 = 1
  · rw [(word_parts2 hk k1).2.2.1]
  · congr 1
    rw [decide_eq_false (fun q => k1 q.1), decide_eq_false (fun q => k1 q.1)]
theorem rows_same {S : List St} (h : SOk S) (hn : noTk S) : rowsT (tableS S) = rowsS S := by
  unfold rowsT rowsS
  rw [if_pos (table_ok h), table_len]
  refine rowsL_congr _ (fun k hk => ?_)
  rw [table_at S hk, gone_no hn]
  exact may_word (h.each k hk) (hn k)
/-- a row of so many chunks is in one of the rows -/
theorem rows_would {S : List St} {m : Nat} (hm : 1 ≤ m) : (∃ i, i < (rowsS S).length ∧ m ≤ ((rowsS S).getD i default).2) ↔ ∃ a, rowHere S m a := by
  have hr := rows_ok (fun k => hadS (gS S k)) S.length
  constructor
  · rintro ⟨i, hi, h⟩
    have he := hr.each i hi
    refine ⟨((rowsS S).getD i default).1, ?_, fun k hk => ?_⟩
    · have := he.top; unfold rowsS at h ⊢; omega
    · exact he.all k (by unfold rowsS at h; omega)
  · rintro ⟨a, h1, h2⟩
    obtain ⟨i, hi, q1, q2⟩ := hr.cover a (by omega) (by have := h2 0 (by omega); rw [Nat.add_zero] at this; exact this)
    have he := hr.each i hi
    refine ⟨i, hi, ?_⟩
    unfold rowsS
    generalize (rowsL (fun k => hadS (gS S k)) S.length).getD i default = s at *
    by_cases hle : m ≤ s.2
    · exact hle
    · have h3 := he.behind (by omega)
      have h4 := h2 (s.1 + s.2 - a) (by omega)
      rw [show a + (s.1 + s.2 - a) = s.1 + s.2 by omega] at h4
      rw [h4] at h3; cases h3
theorem firstOff_full {b m : Nat} (hb : b < 2 ^ m) : firstOff b m = none ↔ b = 2 ^ m - 1 := by
  constructor
  · intro h
    have h1 := firstOff_n h
    apply Nat.eq_of_testBit_eq; intro i
    rw [Nat.testBit_two_pow_sub_one]
    by_cases hi : i < m
    · rw [h1 i hi, decide_eq_true hi]
    · rw [decide_eq_false hi]
      exact Nat.testBit_lt_two_pow (Nat.lt_of_lt_of_le hb (Nat.pow_le_pow_right (by omega) (by omega)))
  · intro h
    subst h
    unfold firstOff
    rw [List.find?_eq_none]
    intro j hj
    have := List.mem_range.1 hj
    rw [Nat.testBit_two_pow_sub_one, decide_eq_true this]; simp
/-- what is taken, or not -/
theorem take_would {S S' : List St} {of : Option Nat} {m : Nat} {r : Option Plc} (h : SOk S) (hn : noTk S) (ht : TakeR S of m S' r) (hm : ∀ c, of = some c → m = 1) (h1 : 1 ≤ m) :
    r.isSome = true ↔ (∃ a, rowHere S m a) ∨ ∃ k c, k < S.length ∧ of = some c ∧ kN (gS S k).1 = 1 ∧ cN (gS S k).1 = c ∧ ¬ (gS S k).2.1 = 2 ^ mnN c - 1 := by
  have hrun : ∀ k c, k < S.length → kN (gS S k).1 = 1 → cN (gS S k).1 = c → (runAt c (gS S k) = true ↔ ¬ (gS S k).2.1 = 2 ^ mnN c - 1) := fun k c hk k1 kc => by
    have hb := ((h.each k hk).run k1).1
    rw [kc] at hb
    unfold runAt
    rw [decide_eq_true k1, decide_eq_true kc, hn k, Nat.or_zero, Bool.true_and, Bool.true_and]
    cases hf : firstOff (gS S k).2.1 (mnN c) with
    | none => rw [(firstOff_full hb).1 hf]; simp
    | some j =>
      constructor
      · intro _ q
        rw [(firstOff_full hb).2 q] at hf; cases hf
      · intro _; rfl
  cases ht with
  | @run c _ i j hi k1 hcc hj hfirst =>
    refine ⟨fun _ => .inr ⟨i, c, hi, rfl, k1, hcc, (hrun i c hi k1 hcc).1 ?_⟩, fun _ => rfl⟩
    unfold runAt
    rw [decide_eq_true k1, decide_eq_true hcc, hj]; rfl
  | @fresh c _ i hno hrow hfirst => exact ⟨fun _ => .inl ⟨i, by rw [hm c rfl]; exact hrow⟩, fun _ => rfl⟩
  | @full c _ hno hrow =>
    refine ⟨(fun q => by cases q), ?_⟩
    rintro (⟨a, q⟩ | ⟨k, c2, hk, e, k1, kc, q⟩)
    · rw [hm c rfl] at q; exact absurd q (hrow a)
    · cases e
      have := (hrun k c hk k1 kc).2 q
      rw [hno k hk] at this; cases this
  | @huge _ a hrow hfirst => exact ⟨fun _ => .inl ⟨a, hrow⟩, fun _ => rfl⟩
  | @fullH _ hrow =>
    refine ⟨(fun q => by cases q), ?_⟩
    rintro (⟨a, q⟩ | ⟨k, c2, hk, e, _⟩)
    · exact absurd q (hrow a)
    · cases e
theorem gS_huge {S : List St} {a m : Nat} (h1 : 1 ≤ m) (h2 : a + m ≤ S.length) (k : Nat) : gS ((fillS S (a + 1) (3, 0, 0) (m - 1)).set a (2 + 2048 * m, 0, 1)) k = if k = a then (2 + 2048 * m, 0, 1) else if a < k ∧ k < a + m then (3, 0, 0) else gS S k := by
  rw [gS_set _ _ _ _ (by rw [fill_len]; omega)]
  by_cases e : k = a
  · rw [if_pos e, if_pos e]
  · rw [if_neg e, if_neg e, fill_at _ _ _ _ (by omega)]
    by_cases q : a < k ∧ k < a + m
    · rw [if_pos q, if_pos (by omega)]
    · rw [if_neg q, if_neg (by omega)]
theorem had_bits {s : St} (hk : StOk s) (h : hadS s = true) : s.2.1 = 0 ∧ s.2.2 = 0 ∧ (kN s.1 = 0 ∨ kN s.1 = 1) := by
  obtain ⟨h1, h2, h3, h4⟩ := had_t hk h
  refine ⟨h3, h4, ?_⟩
  unfold hadS at h
  simp only [Bool.or_eq_true, decide_eq_true_eq] at h
  omega
/-- what was had at first, and isn't now, has been taken since -/
structure Inv (S0 S : List St) (R : List Plc) : Prop where
  ok : SOk S
  len : S.length = S0.length
  blks : sFrom 0 S = sFrom 0 S0
  keep : ∀ k, k < S0.length → hadS (gS S0 k) = false → (gS S k).1 = (gS S0 k).1 ∧ (gS S k).2.1 = (gS S0 k).2.1
  had : ∀ k, k < S0.length → hadS (gS S0 k) = true → (gS S k).2.1 = 0 ∧ kN (gS S k).1 ≤ 3
  tk : ∀ p ∈ R, TakenAt S p
  only : ∀ k j, (gS S k).2.2.testBit j = true → ∃ p ∈ R, p.ch = k ∧ p.ix = j
  apart : R.Pairwise (fun p q => ¬ (p.ch = q.ch ∧ p.ix = q.ix))
theorem Inv.first {S : List St} (h : SOk S) (hn : noTk S) : Inv S S [] := by
  refine ⟨h, rfl, rfl, fun k _ _ => ⟨rfl, rfl⟩, fun k hk hh => ?_, (fun p hp => by cases hp), fun k j q => ?_, List.Pairwise.nil⟩
  · obtain ⟨h1, _, h3⟩ := had_bits (h.each k hk) hh
    exact ⟨h1, by omega⟩
  · rw [hn k, Nat.zero_testBit] at q; cases q
theorem Inv.perm {S0 S : List St} {R R2 : List Plc} (h : Inv S0 S R) (hp : R.Perm R2) : Inv S0 S R2 :=
  ⟨h.ok, h.len, h.blks, h.keep, h.had, fun p q => h.tk p (hp.mem_iff.2 q), fun k j q => by
    obtain ⟨p, q1, q2⟩ := h.only k j q
    exact ⟨p, hp.mem_iff.1 q1, q2⟩, (hp.pairwise_iff (fun q e => q ⟨e.1.symm, e.2.symm⟩)).1 h.apart⟩
/-- what can be had now could be had at first -/
theorem Inv.was {S0 S : List St} {R : List Plc} (h : Inv S0 S R) (h0 : SOk S0) (hn : noTk S0) {k : Nat} (hk : k < S0.length) (hh : hadS (gS S k) = true) : hadS (gS S0 k) = true := by
  cases hq : hadS (gS S0 k) with
  | true => rfl
  | false =>
    obtain ⟨e1, e2⟩ := h.keep k hk hq
    obtain ⟨b1, b2, b3⟩ := had_bits (h.ok.each k (by rw [h.len]; exact hk)) hh
    rw [e1] at b3
    rw [e2] at b1
    unfold hadS at hq
    rw [b1, hn k] at hq
    rcases b3 with q | q
    · rw [q] at hq; cases hq
    · rw [q] at hq; cases hq
theorem Inv.not {S0 S : List St} {R : List Plc} (h : Inv S0 S R) {k : Nat} (hk : k < S0.length) (hh : hadS (gS S k) = true) : ∀ p ∈ R, ¬ p.ch = k := fun p hp e => by
  obtain ⟨_, q⟩ := h.tk p hp
  rw [e] at q
  obtain ⟨b1, b2, b3⟩ := had_bits (h.ok.each k (by rw [h.len]; exact hk)) hh
  rcases q with ⟨_, _, _, q⟩ | ⟨q, _⟩
  · rw [b2, Nat.zero_testBit] at q; cases q
  · omega
theorem taken_keep {S S' : List St} {p : Plc} (h : TakenAt S p) (hl : S'.length = S.length) (he : gS S' p.ch = gS S p.ch) : TakenAt S' p := by
  obtain ⟨h1, h2⟩ := h
  refine ⟨by omega, ?_⟩
  rw [he]; exact h2
theorem pair_snoc {R : List Plc} {p : Plc} (h : R.Pairwise (fun p q => ¬ (p.ch = q.ch ∧ p.ix = q.ix))) (hp : ∀ q ∈ R, ¬ (q.ch = p.ch ∧ q.ix = p.ix)) : (R ++ [p]).Pairwise (fun p q => ¬ (p.ch = q.ch ∧ p.ix = q.ix)) := by
  rw [List.pairwise_append]
  refine ⟨h, List.pairwise_singleton _ _, fun a ha b hb => ?_⟩
  rw [List.mem_singleton] at hb
  subst hb
  exact hp a ha
theorem Inv.take {S0 S S' : List St} {R : List Plc} {p : Plc} {of : Option Nat} {m : Nat} (h : Inv S0 S R) (h0 : SOk S0) (hn : noTk S0) (ht : TakeR S of m S' (some p)) (hc : ∀ c, of = some c → c < 3) (h1 : 1 ≤ m) (h2 : m ≤ 8191) : Inv S0 S' (R ++ [p]) := by
  obtain ⟨k1, k2, k3⟩ := take_ok h.ok ht hc h1 h2
  have hlen := len_takeR ht
  have hp := k3 p rfl
  have mk : (∀ k, k < S0.length → hadS (gS S0 k) = false → (gS S' k).1 = (gS S0 k).1 ∧ (gS S' k).2.1 = (gS S0 k).2.1) → (∀ k, k < S0.length → hadS (gS S0 k) = true → (gS S' k).2.1 = 0 ∧ kN (gS S' k).1 ≤ 3) → (∀ q ∈ R, TakenAt S' q ∧ ¬ (q.ch = p.ch ∧ q.ix = p.ix)) → (∀ k j, (gS S' k).2.2.testBit j = true → (gS S k).2.2.testBit j = true ∨ (p.ch = k ∧ p.ix = j)) → Inv S0 S' (R ++ [p]) := fun a1 a2 a3 a4 =>
    ⟨k1, hlen.trans h.len, k2.trans h.blks, a1, a2, fun q hq => by
      rcases List.mem_append.1 hq with hq | hq
      · exact (a3 q hq).1
      · rw [List.mem_singleton] at hq; subst hq; exact hp, fun k j q => by
      rcases a4 k j q with q | q
      · obtain ⟨x, x1, x2⟩ := h.only k j q
        exact ⟨x, List.mem_append_left _ x1, x2⟩
      · exact ⟨p, List.mem_append_right _ (List.mem_singleton.2 rfl), q⟩, pair_snoc h.apart (fun q hq => (a3 q hq).2)⟩
  cases ht with
  | @run c _ i j hi kk hcc hj hfirst =>
    obtain ⟨j1, j2⟩ := firstOff_t hj
    rw [Nat.testBit_or, Bool.or_eq_false_iff] at j2
    have hg := fun k => gS_set S i ((gS S i).1, (gS S i).2.1, (gS S i).2.2 ||| 2 ^ j) k hi
    refine mk (fun k hk hh => ?_) (fun k hk hh => ?_) (fun q hq => ?_) (fun k b hb => ?_)
    · rw [hg k]
      by_cases e : k = i
      · subst e; rw [if_pos rfl]; exact h.keep k hk hh
      · rw [if_neg e]; exact h.keep k hk hh
    · rw [hg k]
      by_cases e : k = i
      · subst e; rw [if_pos rfl]; exact h.had k hk hh
      · rw [if_neg e]; exact h.had k hk hh
    · have hT := h.tk q hq
      by_cases e : q.ch = i
      · obtain ⟨t1, t2⟩ := hT
        rw [e] at t2
        rcases t2 with ⟨_, t3, t4, t5⟩ | ⟨t3, _⟩
        · refine ⟨⟨by rw [List.length_set]; exact t1, .inl ?_⟩, fun x => ?_⟩
          · rw [e, hg i, if_pos rfl]
            exact ⟨kk, t3, t4, by rw [Nat.testBit_or, t5]; rfl⟩
          · have x2 := x.2
            simp only [] at x2
            rw [x2] at t5; rw [j2.2] at t5; cases t5
        · omega
      · exact ⟨taken_keep hT (by rw [List.length_set]) (by rw [hg, if_neg e]), fun x => e x.1⟩
    · rw [hg k] at hb
      by_cases e : k = i
      · subst e
        rw [if_pos rfl] at hb
        simp only [] at hb
        rw [Nat.testBit_or, testBit_pow, Bool.or_eq_true, decide_eq_true_eq] at hb
        rcases hb with hb | hb
        · exact .inl hb
        · exact .inr ⟨rfl, hb⟩
      · rw [if_neg e] at hb; exact .inl hb
  | @fresh c _ i hno hrow hfirst =>
    have hi : i < S.length := by have := hrow.1; omega
    have hh := hrow.2 0 (by omega)
    rw [Nat.add_zero] at hh
    have hi0 : i < S0.length := by rw [← h.len]; exact hi
    have hw := h.was h0 hn hi0 hh
    have hnot := h.not hi0 hh
    have hc3 := parts_run c (hc c rfl)
    have hg := fun k => gS_set S i (1 + 8 * c, 0, 1) k hi
    refine mk (fun k hk hf => ?_) (fun k hk hf => ?_) (fun q hq => ?_) (fun k b hb => ?_)
    · rw [hg k]
      by_cases e : k = i
      · subst e; rw [hw] at hf; cases hf
      · rw [if_neg e]; exact h.keep k hk hf
    · rw [hg k]
      by_cases e : k = i
      · rw [if_pos e]; exact ⟨rfl, by simp only []; omega⟩
      · rw [if_neg e]; exact h.had k hk hf
    · have e := hnot q hq
      exact ⟨taken_keep (h.tk q hq) (by rw [List.length_set]) (by rw [hg, if_neg e]), fun x => e x.1⟩
    · rw [hg k] at hb
      by_cases e : k = i
      · rw [if_pos e] at hb
        simp only [] at hb
        rw [show (1 : Nat) = 2 ^ 0 from rfl, testBit_pow, decide_eq_true_eq] at hb
        exact .inr ⟨e.symm, hb⟩
      · rw [if_neg e] at hb; exact .inl hb
  | @huge _ a hrow hfirst =>
    have ha := hrow.1
    have hr : ∀ k, a ≤ k → k < a + m → hadS (gS S k) = true := fun k q1 q2 => by
      have := hrow.2 (k - a) (by omega)
      rw [show a + (k - a) = k by omega] at this; exact this
    have hg := fun k => gS_huge (S := S) (a := a) (m := m) h1 ha k
    have hm2 := parts_huge m h1 h2
    refine mk (fun k hk hf => ?_) (fun k hk hf => ?_) (fun q hq => ?_) (fun k b hb => ?_)
    · by_cases e : a ≤ k ∧ k < a + m
      · have := h.was h0 hn hk (hr k e.1 e.2)
        rw [this] at hf; cases hf
      · rw [hg k, if_neg (by omega), if_neg (by omega)]; exact h.keep k hk hf
    · rw [hg k]
      by_cases e : k = a
      · rw [if_pos e]; exact ⟨rfl, by simp only []; omega⟩
      · rw [if_neg e]
        by_cases e2 : a < k ∧ k < a + m
        · rw [if_pos e2]; exact ⟨rfl, by decide⟩
        · rw [if_neg e2]; exact h.had k hk hf
    · have hT := h.tk q hq
      have e : ¬ (a ≤ q.ch ∧ q.ch < a + m) := fun e => h.not (by rw [← h.len]; exact hT.1) (hr _ e.1 e.2) q hq rfl
      exact ⟨taken_keep hT (by rw [List.length_set, fill_len]) (by rw [hg, if_neg (by omega), if_neg (by omega)]), fun x => by have := x.1; simp only [] at this; omega⟩
    · rw [hg k] at hb
      by_cases e : k = a
      · rw [if_pos e] at hb
        simp only [] at hb
        rw [show (1 : Nat) = 2 ^ 0 from rfl, testBit_pow, decide_eq_true_eq] at hb
        exact .inr ⟨e.symm, hb⟩
      · rw [if_neg e] at hb
        by_cases e2 : a < k ∧ k < a + m
        · rw [if_pos e2, Nat.zero_testBit] at hb; cases hb
        · rw [if_neg e2] at hb; exact .inl hb
theorem Inv.drop {S0 S : List St} {R : List Plc} {p : Plc} (h : Inv S0 S (p :: R)) (h0 : SOk S0) (hn : noTk S0) : (dropS S p.ch p.ix p.cl p.mn).1 = true ∧ Inv S0 (dropS S p.ch p.ix p.cl p.mn).2 R := by
  have hT := h.tk p (List.mem_cons_self ..)
  have hD := drop_ok h.ok hT
  have he := drop_eq h.ok hT
  obtain ⟨hap, hpa⟩ := List.pairwise_cons.1 h.apart
  rw [he] at hD ⊢
  refine ⟨rfl, ?_⟩
  simp only [] at hD ⊢
  have hl := hD.len
  obtain ⟨hi, hq⟩ := hT
  have hi0 : p.ch < S0.length := by rw [← h.len]; exact hi
  rcases hq with ⟨k1, a2, a3, a4⟩ | ⟨k2, a2, a3, a4, a5⟩
  · rw [if_pos k1] at hD hl ⊢
    have hg := fun k => gS_set S p.ch ((gS S p.ch).1, (gS S p.ch).2.1, clrN (gS S p.ch).2.2 (2 ^ p.ix)) k hi
    refine ⟨hD.ok, hl.trans h.len, hD.same.trans h.blks, fun k hk hf => ?_, fun k hk hf => ?_, fun q hq => ?_, fun k b hb => ?_, hpa⟩
    · rw [hg k]
      by_cases e : k = p.ch
      · subst e; rw [if_pos rfl]; exact h.keep _ hk hf
      · rw [if_neg e]; exact h.keep k hk hf
    · rw [hg k]
      by_cases e : k = p.ch
      · subst e; rw [if_pos rfl]; exact h.had _ hk hf
      · rw [if_neg e]; exact h.had k hk hf
    · have hQ := h.tk q (List.mem_cons_of_mem _ hq)
      by_cases e : q.ch = p.ch
      · obtain ⟨t1, t2⟩ := hQ
        rw [e] at t2
        rcases t2 with ⟨_, t3, t4, t5⟩ | ⟨t3, _⟩
        · refine ⟨by rw [List.length_set]; exact t1, .inl ?_⟩
          rw [e, hg, if_pos rfl]
          refine ⟨k1, t3, t4, ?_⟩
          rw [clr_bit, t5, decide_eq_false (fun x => hap q hq ⟨e.symm, x⟩)]; rfl
        · omega
      · exact taken_keep hQ (by rw [List.length_set]) (by rw [hg, if_neg e])
    · rw [hg k] at hb
      by_cases e : k = p.ch
      · subst e
        rw [if_pos rfl] at hb
        simp only [] at hb
        rw [clr_bit, Bool.and_eq_true, Bool.not_eq_true', decide_eq_false_iff_not] at hb
        obtain ⟨x, x1, x2, x3⟩ := h.only _ b hb.1
        rcases List.mem_cons.1 x1 with x1 | x1
        · subst x1; exact absurd x3 hb.2
        · exact ⟨x, x1, x2, x3⟩
      · rw [if_neg e] at hb
        obtain ⟨x, x1, x2, x3⟩ := h.only _ b hb
        rcases List.mem_cons.1 x1 with x1 | x1
        · subst x1; exact absurd x2.symm e
        · exact ⟨x, x1, x2, x3⟩
  · have hne : ¬ kN (gS S p.ch).1 = 1 := by omega
    rw [if_neg hne] at hD hl ⊢
    obtain ⟨m1, m2⟩ := huge_many h.ok hi k2
    have hg := fun k => gS_fill0 (S := S) (c := p.ch) (s := ((gS S p.ch).1, 0, 0)) m2 m1 k
    have hch0 : hadS (gS S0 p.ch) = true := by
      cases hf : hadS (gS S0 p.ch) with
      | true => rfl
      | false =>
        obtain ⟨e1, e2⟩ := h.keep _ hi0 hf
        have hh := (h.ok.each _ hi).huge k2
        have hh0 := (h0.each _ hi0).huge (by rw [← e1]; exact k2)
        have := hn p.ch
        omega
    have htail : ∀ k, p.ch < k → k < p.ch + mN (gS S p.ch).1 → kN (gS S k).1 = 3 := fun k q1 q2 => (h.ok.tiled k (by omega)).1.1 ⟨p.ch, q1, k2, q2⟩
    refine ⟨hD.ok, hl.trans h.len, hD.same.trans h.blks, fun k hk hf => ?_, fun k hk hf => ?_, fun q hq => ?_, fun k b hb => ?_, hpa⟩
    · rw [hg k]
      by_cases e : p.ch ≤ k ∧ k < p.ch + mN (gS S p.ch).1
      · exfalso
        by_cases e2 : k = p.ch
        · subst e2; rw [hch0] at hf; cases hf
        · have k3 := htail k (by omega) e.2
          obtain ⟨e1, _⟩ := h.keep k hk hf
          rw [e1] at k3
          obtain ⟨g, g1, g2, g3⟩ := (h0.tiled k hk).1.2 k3
          simp only [] at g2 g3
          have hgf : hadS (gS S0 g) = false := by
            unfold hadS; rw [g2]; rfl
          obtain ⟨e3, _⟩ := h.keep g (by omega) hgf
          rw [← e3] at g2 g3
          have := tiled_apart h.ok.tiled (a := g) (b := p.ch) (i := k) (by rw [h.len]; omega) hi g2 k2 (by omega) g3 e.1 e.2
          subst this
          rw [hch0] at hgf; cases hgf
      · rw [if_neg e]; exact h.keep k hk hf
    · rw [hg k]
      by_cases e : p.ch ≤ k ∧ k < p.ch + mN (gS S p.ch).1
      · rw [if_pos e]; exact ⟨rfl, by decide⟩
      · rw [if_neg e]; exact h.had k hk hf
    · have hQ := h.tk q (List.mem_cons_of_mem _ hq)
      by_cases e : p.ch ≤ q.ch ∧ q.ch < p.ch + mN (gS S p.ch).1
      · exfalso
        obtain ⟨t1, t2⟩ := hQ
        by_cases e2 : q.ch = p.ch
        · rw [e2] at t2
          rcases t2 with ⟨t3, _⟩ | ⟨_, _, t4, _⟩
          · omega
          · exact hap q hq ⟨e2.symm, by omega⟩
        · have k3 := htail q.ch (by omega) e.2
          rcases t2 with ⟨t3, _⟩ | ⟨t3, _⟩ <;> omega
      · exact taken_keep hQ hl (by rw [hg, if_neg e])
    · rw [hg k] at hb
      by_cases e : p.ch ≤ k ∧ k < p.ch + mN (gS S p.ch).1
      · rw [if_pos e, Nat.zero_testBit] at hb; cases hb
      · rw [if_neg e] at hb
        obtain ⟨x, x1, x2, x3⟩ := h.only _ b hb
        rcases List.mem_cons.1 x1 with x1 | x1
        · subst x1; omega
        · exact ⟨x, x1, x2, x3⟩
theorem Inv.last {S0 S : List St} (h : Inv S0 S []) (h0 : SOk S0) (hn : noTk S0) : rowsS S = rowsS S0 := by
  have hz : ∀ k, (gS S k).2.2 = 0 := fun k => by
    apply Nat.eq_of_testBit_eq; intro i
    rw [Nat.zero_testBit]
    cases hb : (gS S k).2.2.testBit i with
    | false => rfl
    | true => obtain ⟨p, hp, _⟩ := h.only k i hb; cases hp
  unfold rowsS
  rw [h.len]
  refine rowsL_congr _ (fun k hk => ?_)
  cases hf : hadS (gS S0 k) with
  | false =>
    obtain ⟨e1, e2⟩ := h.keep k hk hf
    have : gS S k = gS S0 k := Prod.ext e1 (Prod.ext e2 (by rw [hz k, hn k]))
    rw [this, hf]
  | true =>
    obtain ⟨e1, e2⟩ := h.had k hk hf
    have hO := h.ok.each k (by rw [h.len]; exact hk)
    have hne2 : ¬ kN (gS S k).1 = 2 := fun q => by have := hO.huge q; have := hz k; omega
    have hne3 : ¬ kN (gS S k).1 = 3 := fun q => by
      obtain ⟨g, g1, g2, g3⟩ := (h.ok.tiled k (by rw [h.len]; exact hk)).1.2 q
      simp only [] at g2 g3
      cases hg : hadS (gS S0 g) with
      | true =>
        have := (h.had g (by omega) hg).1
        have := (h.ok.each g (by rw [h.len]; omega)).huge g2
        have := hz g
        omega
      | false =>
        obtain ⟨e3, _⟩ := h.keep g (by omega) hg
        rw [e3] at g2 g3
        have k3 := (h0.tiled k hk).1.1 ⟨g, g1, g2, g3⟩
        obtain ⟨_, _, b⟩ := had_bits (h0.each k hk) hf
        simp only [] at k3
        omega
    unfold hadS
    rw [e1, hz k]
    by_cases k0 : kN (gS S k).1 = 0
    · rw [k0]; rfl
    · rw [show kN (gS S k).1 = 1 by omega]; rfl
/-- freed, the same is taken again -/
theorem frees_again {S S1 S4 : List St} {of : Option Nat} {m : Nat} {p : Plc} {r : Option Plc} (h : SOk S) (hc : ∀ c, of = some c → c < 3) (h1 : 1 ≤ m) (h2 : m ≤ 8191) (ht : TakeR S of m S1 (some p))
    (ht4 : TakeR (freeS (keepS S1 p.ch p.ix p.cl p.mn).2 p.ch p.ix p.cl p.mn).2 of m S4 r) : ∃ q, r = some q ∧ q.ch = p.ch ∧ q.ix = p.ix ∧ q.cl = p.cl ∧ q.mn = p.mn := by
  obtain ⟨k1, k2, k3⟩ := take_ok h ht hc h1 h2
  have hT := k3 p rfl
  have hK := keep_ok k1 hT
  have hfe := free_eq hK.ok hK.live
  have hke := keep_eq k1 hT
  have hlen := len_takeR ht
  rw [hfe] at ht4
  simp only [] at ht4
  have hK2 : ∀ k, gS (keepS S1 p.ch p.ix p.cl p.mn).2 k = if k = p.ch then (if kN (gS S1 p.ch).1 = 1 then ((gS S1 p.ch).1, (gS S1 p.ch).2.1 ||| 2 ^ p.ix, clrN (gS S1 p.ch).2.2 (2 ^ p.ix)) else ((gS S1 p.ch).1, 1, 0)) else gS S1 k := fun k => by
    rw [hke]; exact gS_set _ _ _ _ hT.1
  have hKl : (keepS S1 p.ch p.ix p.cl p.mn).2.length = S1.length := hK.len
  generalize (keepS S1 p.ch p.ix p.cl p.mn).2 = S2 at *
  have hi2 : p.ch < S2.length := by rw [hKl]; exact hT.1
  cases ht with
  | @run c _ i j hi kk hcc hj hfirst =>
    obtain ⟨j1, j2⟩ := firstOff_t hj
    rw [Nat.testBit_or, Bool.or_eq_false_iff] at j2
    have hg1 := fun k => gS_set S i ((gS S i).1, (gS S i).2.1, (gS S i).2.2 ||| 2 ^ j) k hi
    simp only [] at ht4 hK2 hi2
    have e1 := hg1 i
    rw [if_pos rfl] at e1
    have e2 := hK2 i
    rw [if_pos rfl, e1] at e2
    simp only [] at e2
    rw [if_pos kk] at e2
    rw [e2] at ht4
    simp only [] at ht4
    rw [if_pos kk] at ht4
    -- the state is what it was
    have hS : ∀ k, gS (S2.set i ((gS S i).1, clrN ((gS S i).2.1 ||| 2 ^ j) (2 ^ j), clrN ((gS S i).2.2 ||| 2 ^ j) (2 ^ j))) k = gS S k := fun k => by
      rw [gS_set _ _ _ _ hi2]
      by_cases e : k = i
      · subst e
        rw [if_pos rfl]
        have hb : ∀ a : Nat, a.testBit j = false → clrN (a ||| 2 ^ j) (2 ^ j) = a := fun a ha => by
          apply Nat.eq_of_testBit_eq; intro b
          rw [clr_bit, Nat.testBit_or, testBit_pow]
          by_cases e : j = b
          · subst e; rw [ha]; simp
          · rw [decide_eq_false e]; simp
        rw [hb _ j2.1, hb _ j2.2]
      · rw [if_neg e, hK2 k, if_neg e, hg1 k, if_neg e]
    cases ht4 with
    | @run _ _ i' j' hi' kk' hcc' hj' hfirst' =>
      rw [hS] at kk' hcc' hj'
      have hii : i' = i := by
        rcases Nat.lt_trichotomy i' i with q | q | q
        · have := hfirst i' q
          unfold runAt at this
          rw [decide_eq_true kk', decide_eq_true hcc', hj'] at this; cases this
        · exact q
        · have := hfirst' i q
          rw [hS] at this
          unfold runAt at this
          rw [decide_eq_true kk, decide_eq_true hcc, hj] at this; cases this
      subst hii
      rw [hj] at hj'
      cases hj'
      exact ⟨_, rfl, rfl, rfl, rfl, rfl⟩
    | @fresh _ _ i' hno' hrow' hfirst' =>
      have := hno' i (by rw [List.length_set]; exact hi2)
      rw [hS] at this
      unfold runAt at this
      rw [decide_eq_true kk, decide_eq_true hcc, hj] at this; cases this
    | @full _ _ hno' hrow' =>
      have := hno' i (by rw [List.length_set]; exact hi2)
      rw [hS] at this
      unfold runAt at this
      rw [decide_eq_true kk, decide_eq_true hcc, hj] at this; cases this
  | @fresh c _ i hno hrow hfirst =>
    have hi : i < S.length := by have := hrow.1; omega
    have c3 := hc c rfl
    obtain ⟨q1, q2, q3⟩ := parts_run c c3
    have hg1 := fun k => gS_set S i (1 + 8 * c, 0, 1) k hi
    simp only [] at ht4 hK2 hi2
    have e1 := hg1 i
    rw [if_pos rfl] at e1
    have e2 := hK2 i
    rw [if_pos rfl, e1] at e2
    simp only [] at e2
    rw [if_pos q1] at e2
    rw [e2] at ht4
    simp only [] at ht4
    rw [if_pos q1] at ht4
    have hz : clrN (0 ||| 2 ^ 0) (2 ^ 0) = 0 ∧ clrN 1 (2 ^ 0) = 0 := by decide
    rw [hz.1, hz.2] at ht4
    have hS : ∀ k, gS (S2.set i (1 + 8 * c, 0, 0)) k = if k = i then (1 + 8 * c, 0, 0) else gS S k := fun k => by
      rw [gS_set _ _ _ _ hi2]
      by_cases e : k = i
      · rw [if_pos e, if_pos e]
      · rw [if_neg e, if_neg e, hK2 k, if_neg e, hg1 k, if_neg e]
    have hl4 : (S2.set i (1 + 8 * c, 0, 0)).length = S.length := by rw [List.length_set, hKl, List.length_set]
    have hf0 : firstOff (0 ||| 0) (mnN c) = some 0 := by
      have : c = 0 ∨ c = 1 ∨ c = 2 := by omega
      rcases this with e | e | e <;> rw [e] <;> decide
    have hri : runAt c (gS (S2.set i (1 + 8 * c, 0, 0)) i) = true := by
      rw [hS, if_pos rfl]
      unfold runAt
      simp only []
      rw [decide_eq_true q1, decide_eq_true q2, hf0]; rfl
    cases ht4 with
    | @run _ _ i' j' hi' kk' hcc' hj' hfirst' =>
      rw [hl4] at hi'
      by_cases e : i' = i
      · subst e
        rw [hS, if_pos rfl] at hj'
        simp only [] at hj'
        rw [hf0] at hj'
        cases hj'
        exact ⟨_, rfl, rfl, rfl, rfl, rfl⟩
      · exfalso
        rw [hS, if_neg e] at kk' hcc' hj'
        have := hno i' hi'
        unfold runAt at this
        rw [decide_eq_true kk', decide_eq_true hcc', hj'] at this; cases this
    | @fresh _ _ i' hno' hrow' hfirst' =>
      have := hno' i (by rw [hl4]; exact hi)
      rw [hri] at this; cases this
    | @full _ _ hno' hrow' =>
      have := hno' i (by rw [hl4]; exact hi)
      rw [hri] at this; cases this
  | @huge _ a hrow hfirst =>
    have ha := hrow.1
    obtain ⟨q1, q2, q3⟩ := parts_huge m h1 h2
    have hg1 := fun k => gS_huge (S := S) (a := a) (m := m) h1 ha k
    simp only [] at ht4 hK2 hi2
    have e1 := hg1 a
    rw [if_pos rfl] at e1
    have e2 := hK2 a
    rw [if_pos rfl, e1] at e2
    simp only [] at e2
    rw [if_neg (by omega)] at e2
    rw [e2] at ht4
    simp only [] at ht4
    rw [if_neg (by omega), q2] at ht4
    have hl2 : S2.length = S.length := by rw [hKl, List.length_set, fill_len]
    have hS : ∀ k, gS (fillS (S2.set a (2 + 2048 * m, 0, 0)) a (0, 0, 0) m) k = if a ≤ k ∧ k < a + m then (0, 0, 0) else gS S k := fun k => by
      rw [gS_fill0 (by rw [hl2]; exact ha) h1]
      by_cases e : a ≤ k ∧ k < a + m
      · rw [if_pos e, if_pos e]
      · rw [if_neg e, if_neg e, hK2 k, if_neg (by omega), hg1 k, if_neg (by omega), if_neg (by omega)]
    have hl4 : (fillS (S2.set a (2 + 2048 * m, 0, 0)) a (0, 0, 0) m).length = S.length := by rw [fill_len, List.length_set, hl2]
    have hh : ∀ k, hadS (gS (fillS (S2.set a (2 + 2048 * m, 0, 0)) a (0, 0, 0) m) k) = hadS (gS S k) := fun k => by
      rw [hS k]
      by_cases e : a ≤ k ∧ k < a + m
      · rw [if_pos e]
        have := hrow.2 (k - a) (by omega)
        rw [show a + (k - a) = k by omega] at this
        rw [this]; rfl
      · rw [if_neg e]
    have hr : ∀ k, rowHere (fillS (S2.set a (2 + 2048 * m, 0, 0)) a (0, 0, 0) m) m k ↔ rowHere S m k := fun k => by
      unfold rowHere
      rw [hl4]
      constructor
      · rintro ⟨x1, x2⟩; exact ⟨x1, fun j hj => by rw [← hh]; exact x2 j hj⟩
      · rintro ⟨x1, x2⟩; exact ⟨x1, fun j hj => by rw [hh]; exact x2 j hj⟩
    cases ht4 with
    | @huge _ a' hrow' hfirst' =>
      have haa : a' = a := by
        rcases Nat.lt_trichotomy a' a with q | q | q
        · exact absurd ((hr a').1 hrow') (hfirst a' q)
        · exact q
        · exact absurd ((hr a).2 hrow) (hfirst' a q)
      subst haa
      exact ⟨_, rfl, rfl, rfl, rfl, rfl⟩
    | @fullH _ hrow' => exact absurd ((hr a).2 hrow) (hrow' a)
end Go.Proofs.YtnjifmecaeagaaaDoor
end
