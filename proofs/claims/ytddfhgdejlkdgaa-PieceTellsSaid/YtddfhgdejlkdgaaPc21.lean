/-
  What the document's call Cut answers.
-/
import Derived.Test.YtddfhgdejlkdgaaPc16
set_option linter.unusedVariables false
set_option linter.unusedSimpArgs false
namespace Go.Proofs.Ytddfhgdejlkdgaa
open Go.RowKit

def partL (n : Int) (s : Sp) (x : Int) (k : Nat) : List Sp := inter1 n s (x, (k : Int))
def inW (s : Sp) (y : Int) : Bool := decide (s.1 ≤ y) && decide (y < s.1 + s.2)
def opnB (n : Int) (s : Sp) : Nat → Bool
  | 0 => false
  | k + 1 => inW s (n + k)
theorem partL_zero (n : Int) (s : Sp) (x : Int) : partL n s x 0 = [] := by
  unfold partL inter1
  rw [if_neg (by simp only []; omega)]
theorem part_on {n : Int} {s : Sp} {x : Int} {k : Nat} (hi : inW s (n + k) = true) (ho : opnB n s k = true) : ∃ a m : Int, 0 ≤ m ∧ m ≤ k ∧ partL n s x k = [(a, m)] ∧ partL n s x (k + 1) = [(a, m + 1)] := by
  cases k with
  | zero => cases ho
  | succ k =>
    simp only [opnB, inW, Bool.and_eq_true, decide_eq_true_eq] at hi ho
    refine ⟨x + max (s.1 - n) 0, ((k + 1 : Nat) : Int) - max (s.1 - n) 0, by omega, by omega, ?_, ?_⟩
    · unfold partL inter1
      simp only []
      rw [if_pos (by omega), Int.min_eq_right (by omega)]
    · unfold partL inter1
      simp only []
      rw [if_pos (by omega), Int.min_eq_right (by omega)]
      congr 2; omega
theorem part_new {n : Int} {s : Sp} {x : Int} {k : Nat} (hi : inW s (n + k) = true) (ho : opnB n s k = false) : partL n s x k = [] ∧ partL n s x (k + 1) = [(x + k, 1)] := by
  simp only [inW, Bool.and_eq_true, decide_eq_true_eq] at hi
  have hm : max (s.1 - n) 0 = (k : Int) := by
    cases k with
    | zero => omega
    | succ k =>
      simp only [opnB, inW, Bool.and_eq_false_iff, decide_eq_false_iff_not] at ho
      omega
  unfold partL inter1
  simp only []
  refine ⟨by rw [if_neg (by omega)], ?_⟩
  rw [if_pos (by omega), Int.min_eq_right (by omega), hm]
  congr 2; omega
theorem part_off {n : Int} {s : Sp} {x : Int} {k : Nat} (hi : inW s (n + k) = false) : partL n s x (k + 1) = partL n s x k := by
  simp only [inW, Bool.and_eq_false_iff, decide_eq_false_iff_not] at hi
  unfold partL inter1
  simp only []
  by_cases h : max (s.1 - n) 0 < min (s.1 + s.2 - n) (k : Int)
  · rw [if_pos h, if_pos (by omega)]
    have e : min (s.1 + s.2 - n) (((k + 1 : Nat)) : Int) = min (s.1 + s.2 - n) (k : Int) := by omega
    rw [e]
  · rw [if_neg h, if_neg (by omega)]
set_option maxHeartbeats 1000000 in
theorem refCut_no (v : Value) (l : List Sp) (s : Sp) (w : World) (hl : PBs l) (hlen : l.length ≤ 1000) (hs1 : -2199023255552 ≤ s.1) (hs2 : s.1 ≤ 2199023255552) (hs3 : -2199023255552 ≤ s.2) (hs4 : s.2 ≤ 2199023255552) (hv : PL w v l) (T : Nat) (hT : (placesL l).length = T)
    (hno : s.2 < 1 ∨ s.1 < 0 ∨ (T : Int) < s.1 ∨ (T : Int) - s.1 < s.2) :
    Calls Try.prog 16 #[v, .agg #[.int .i64 s.1, .int .i64 s.2]] w fun e w' => ∃ v', e = .returned v' ∧ OwnSp w' w.heap.size v' [] ∧ Below w.heap.size w w' := by
  have hPl := Lib.hid (fun w1 (hb : Below w.heap.size w w1) => refPlaces_any v l w1 hl hlen (hv.keep hb))
  have kk := C2.new w (.int .i64 s.1) (.int .i64 s.2) (24 : Nat)
  have hB0 : Below w.heap.size w (w.alloc (.cells #[.int .i64 s.1, .int .i64 s.2] (24 : Nat))) := (Below.refl _ _).alloc (Nat.le_refl _) _
  have hT9 := placesL_tk l hl l.length (Nat.le_refl _)
  rw [List.take_of_length_le (Nat.le_refl _), hT] at hT9
  have hT8 : T ≤ 1000000 := by omega
  clear hT9
  generalize placesL l = P at *
  obtain ⟨A0, cap0, rfl, _⟩ := hv.form rfl
  obtain ⟨s1, s2⟩ := s
  simp only [] at *
  replace hT := Lib.hid hT
  clear hl hlen hv
  have fin : ∀ (q1 : s2 < 1 ∨ 1 ≤ s2) , True := fun _ => trivial
  have main : (s2 < 1) ∨ (1 ≤ s2 ∧ s1 < 0) ∨ (1 ≤ s2 ∧ 0 ≤ s1 ∧ (T : Int) < s1) ∨ (1 ≤ s2 ∧ 0 ≤ s1 ∧ s1 ≤ (T : Int) ∧ (T : Int) - s1 < s2) := by omega
  clear hno fin
  rcases main with q | ⟨q, q2⟩ | ⟨q, q2, q3⟩ | ⟨q, q2, q3, q4⟩
  all_goals
    go_enter Try.func16, Try.ntmps16
    go_wp2_with fail
    refine (hPl.out _ hB0).mono ?_
    rintro e w1 ⟨vp, rfl, hop, hb1⟩
    obtain ⟨A, cap, rfl, hC⟩ := hop.il.form hT.out
    replace kk := kk.keep hb1
    have hB1 := hB0.trans (hb1.mono hB0.size)
    clear hop hPl hC hb1 hB0
    obtain ⟨c0, c1⟩ := kk
    go_wp2_with fail
    go_ret
    exact ⟨_, rfl, OwnSp.nil _ _, hB1⟩
set_option maxRecDepth 10000 in
set_option maxHeartbeats 4000000 in
theorem refCut_yes (v : Value) (l : List Sp) (s : Sp) (w : World) (hl : PBs l) (hlen : l.length ≤ 1000) (hs1 : -2199023255552 ≤ s.1) (hs2 : s.1 ≤ 2199023255552) (hs3 : -2199023255552 ≤ s.2) (hs4 : s.2 ≤ 2199023255552) (hv : PL w v l) (T : Nat) (hT : (placesL l).length = T)
    (q1 : 1 ≤ s.2) (q2 : 0 ≤ s.1) (q3 : s.1 ≤ (T : Int)) (q4 : s.2 ≤ (T : Int) - s.1) :
    Calls Try.prog 16 #[v, .agg #[.int .i64 s.1, .int .i64 s.2]] w fun e w' => ∃ v', e = .returned v' ∧ OwnSp w' w.heap.size v' (interL s 0 l) ∧ Below w.heap.size w w' := by
  have hPl := Lib.hid (fun w1 (hb : Below w.heap.size w w1) => refPlaces_any v l w1 hl hlen (hv.keep hb))
  have kk := C2.new w (.int .i64 s.1) (.int .i64 s.2) (24 : Nat)
  have hB0 : Below w.heap.size w (w.alloc (.cells #[.int .i64 s.1, .int .i64 s.2] (24 : Nat))) := (Below.refl _ _).alloc (Nat.le_refl _) _
  have hT9 := placesL_tk l hl l.length (Nat.le_refl _)
  rw [List.take_of_length_le (Nat.le_refl _), hT] at hT9
  have hT8 : T ≤ 1000000 := by omega
  clear hT9
  generalize placesL l = P at *
  obtain ⟨N, hN⟩ : ∃ n, l.length = n := ⟨_, rfl⟩
  obtain ⟨A0, cap0, rfl, hC0⟩ := hv.form hN
  have hI := Lib.hid (fun k (hk : k < N) => show PB (l.getD k (0, 0)) ∧ 0 ≤ totS (l.take k) ∧ totS (l.take k) ≤ 1000000 ∧ totS (l.take (k + 1)) = totS (l.take k) + (l.getD k (0, 0)).2 ∧ interL s 0 (l.take (k + 1)) = interL s 0 (l.take k) ++ inter1 (totS (l.take k)) s (l.getD k (0, 0)) ∧ (interL s 0 (l.take k)).length ≤ k from by
    have h1 := PBs.tot l hl k (by omega)
    have h2 : PBs (l.take k) := fun x hx => hl x (List.mem_of_mem_take hx)
    have h3 := (inter_pb s (l.take k) 0 h2).2
    rw [List.length_take] at h3
    refine ⟨hl.at k (by omega), h1.1, by omega, ?_, interL_take s l k (by omega), by omega⟩
    rw [List.take_succ_eq_append_getElem (by omega), totS_app, List.getD_eq_getElem?_getD, List.getElem?_eq_getElem (by omega)]
    simp [totS])
  have hZ := Lib.hid (show interL s 0 (l.take 0) = [] ∧ totS (l.take 0) = 0 from ⟨by simp [interL], by simp [totS]⟩)
  have hE := Lib.hid (show interL s 0 (l.take N) = interL s 0 l from by rw [List.take_of_length_le (by omega)])
  obtain ⟨s1, s2⟩ := s
  simp only [] at *
  replace hT := Lib.hid hT
  replace hC0 := Lib.hid hC0
  replace hN := Lib.hid hN
  have hN9 : N ≤ 1000 := by have := hN.out; omega
  clear hl hlen hv
  go_enter Try.func16, Try.ntmps16
  go_wp2_with fail
  refine (hPl.out _ hB0).mono ?_
  rintro e w1 ⟨vp, rfl, hop, hb1⟩
  obtain ⟨A, cap, rfl, hC⟩ := hop.il.form hT.out
  replace kk := kk.keep hb1
  have hB1 := hB0.trans (hb1.mono hB0.size)
  have hz1 : w.heap.size < w1.heap.size := kk.lt
  clear hop hPl hC hb1 hB0
  obtain ⟨c0, c1⟩ := id kk
  go_wp2_with fail
  clear c0 c1
  go_loopw [6, 7, 8] (fun o n i wr => ∃ (k : Nat) (L : List Sp) (n0 : Int), k ≤ N ∧ i = .int .i64 k ∧ n = .int .i64 n0 ∧ Hid (L = interL (s1, s2) 0 (l.take k) ∧ n0 = totS (l.take k)) ∧ OwnSp wr w1.heap.size o L ∧ C2 wr w.heap.size (.int .i64 s1) (.int .i64 s2) ∧ Below w.heap.size w wr ∧ Below w1.heap.size w1 wr) (fun _ _ i _ => N + 1 - (intOf i).toNat)
  case atStart => exact ⟨0, [], 0, Nat.zero_le _, rfl, rfl, Lib.hid ⟨hZ.out.1.symm, hZ.out.2.symm⟩, OwnSp.nil _ _, kk, hB1, Below.refl _ _⟩
  case round =>
    obtain ⟨k, L, n0, hk, rfl, rfl, hLn, hown, hc, hB, hBb⟩ := hrel
    clear kk hB1
    by_cases hlt : k < N
    · have hlt' : (k : Int) < (N : Int) := by omega
      obtain ⟨gl, ol, rfl, hcap, hg, d0, d1⟩ := hC0.out wr k hB hlt
      obtain ⟨⟨p1, p2, p3, p4⟩, p5, p6, p7, p8, p9⟩ := hI.out k hlt
      rw [← hLn.out.2] at p5 p6 p7 p8
      rw [← hLn.out.1] at p8 p9
      have hCk := Lib.hid (fun (w1 : World) (hb : Below w.heap.size w w1) => hC0.out w1 k hb hlt)
      generalize l.getD k (0, 0) = x at *
      obtain ⟨x1, x2⟩ := x
      simp only [] at p1 p2 p3 p4 p7 d0 d1
      obtain ⟨m, rfl⟩ := Int.eq_ofNat_of_zero_le p2
      have hgl : gl < w.heap.size := by
        obtain ⟨gg, oo, he, _, hgg, _⟩ := hC0.out w k (Below.refl _ _) hlt
        simp only [Option.some.injEq, Addr.mk.injEq, and_true] at he
        obtain ⟨rfl, rfl⟩ := he
        exact hgg
      replace p7 := Lib.hid p7
      replace p8 := Lib.hid p8
      have hk1 : k + 1 ≤ N := hlt
      clear hk
      go_wp2_with fail
      clear d0 d1 hg
      obtain ⟨wo, hwo⟩ : ∃ wo : World, wo = wr := ⟨_, rfl⟩
      rw [← hwo] at hown hc hB hBb ⊢
      clear hwo
      go_loopw [6, 7, 9, 10] (fun o n op j wr => ∃ (q : Nat) (b : Bool) (n1 : Int), q ≤ m ∧ j = .int .i64 q ∧ n = .int .i64 n1 ∧ Hid (n1 = n0 + q) ∧ op = .bool b ∧ Hid (b = opnB n0 (s1, s2) q) ∧ OwnSp wr w1.heap.size o (L ++ partL n0 (s1, s2) x1 q) ∧ C2 wr w.heap.size (.int .i64 s1) (.int .i64 s2) ∧ Below w.heap.size w wr ∧ Below w1.heap.size w1 wr) (fun _ _ _ j _ => m + 1 - (intOf j).toNat)
      case atStart => exact ⟨0, false, n0, Nat.zero_le _, rfl, rfl, Lib.hid (by simp), rfl, rfl, by rw [partL_zero, List.append_nil]; exact hown, hc, hB, hBb⟩
      case round =>
        clear hown hc hB hBb wo
        obtain ⟨q, b, n1, hq, rfl, rfl, hn1, rfl, hb, hown, hc, hB, hBb⟩ := hrel
        obtain ⟨g2, o2, he, _, hg, d0, d1⟩ := hCk.out _ hB
        simp only [Option.some.injEq, Addr.mk.injEq, and_true] at he
        obtain ⟨rfl, rfl⟩ := he
        obtain ⟨c0, c1⟩ := id hc
        try simp only [] at d0 d1
        by_cases hlq : q < m
        · have hlq' : (q : Int) < (m : Int) := by omega
          have hn9 : 0 ≤ n1 ∧ n1 ≤ 1001000 := by have := hn1.out; omega
          obtain ⟨hn8, hn7⟩ := hn9
          have hnn := Lib.hid (show n1 + 1 = n0 + ((q + 1 : Nat) : Int) from by rw [hn1.out]; omega)
          have hio : inW (s1, s2) n1 = opnB n0 (s1, s2) (q + 1) := by rw [hn1.out]; rfl
          cases hi : inW (s1, s2) n1 with
          | false =>
            have hpe := Lib.hid (part_off (x := x1) (by rw [← hn1.out]; exact hi))
            rw [hi] at hio
            have hio2 := Lib.hid hio
            have hii : n1 < s1 ∨ s1 + s2 ≤ n1 := by
              simp only [inW, Bool.and_eq_false_iff, decide_eq_false_iff_not] at hi
              omega
            clear hi hio
            rcases hii with hii | hii
            · go_wp2_with fail
              go_roundw
              case rel => exact ⟨q + 1, false, _, by omega, by go_num, rfl, hnn, rfl, hio2, by rw [hpe.out]; exact hown, hc, hB, hBb⟩
              case measure => simp [intOf]; omega
            · by_cases hi3 : n1 < s1
              · exact absurd hi3 (by omega)
              · have hi4 : s1 ≤ n1 := by omega
                go_wp2_with fail
                go_roundw
                case rel => exact ⟨q + 1, false, _, by omega, by go_num, rfl, hnn, rfl, hio2, by rw [hpe.out]; exact hown, hc, hB, hBb⟩
                case measure => simp [intOf]; omega
          | true =>
            have hii : s1 ≤ n1 ∧ n1 < s1 + s2 := by
              simpa only [inW, Bool.and_eq_true, decide_eq_true_eq] using hi
            obtain ⟨hi1, hi2⟩ := hii
            rw [hi] at hio
            have hio2 := Lib.hid hio
            cases b with
            | false =>
              obtain ⟨e1, e2⟩ := part_new (x := x1) (by rw [← hn1.out]; exact hi) hb.out.symm
              rw [e1, List.append_nil] at hown
              replace e2 := Lib.hid e2
              clear hi hio e1
              have fw : IntKind.i64.wrap (x1 + (q : Int)) = x1 + q := by rw [IntKind.wrap_i64]; omega
              obtain ⟨v', w4, hrun, ho, hg2, hl2⟩ := app1 (w := wr.alloc (.cells #[.int .i64 (x1 + (q : Int)), .int .i64 1] (24 : Nat))) (l := L) (s := (x1 + (q : Int), 1)) (base := w1.heap.size) (hown.keep ((Below.refl _ _).alloc (Nat.le_refl _) _)) (C2.new wr (.int .i64 (x1 + (q : Int))) (.int .i64 1) (24 : Nat)) (by have := hBb.size; simp; omega) (by omega)
              have hB4 : Below w.heap.size w w4 := (hB.alloc hB.size _).grown hg2 (by have := hB.size; simp; omega) (fun j hj => by have := (hown.lt _ hj).1; omega)
              have hB5 : Below w1.heap.size w1 w4 := (hBb.alloc hBb.size _).grown hg2 (by have := hBb.size; simp; omega) (fun j hj => (hown.lt _ hj).1)
              have hcn := grown_c2 (hc.alloc (.cells #[.int .i64 (x1 + (q : Int)), .int .i64 1] (24 : Nat))) hg2 (fun e => by have := (hown.lt _ e.symm).1; omega)
              clear hg2 hl2 hown hc hB hBb fw
              go_wp2_with (at_builtin; refine wpList_append_run rfl _ _ 22 rfl _ _ _ rfl rfl hrun ?_)
              clear hrun
              go_wp2_with fail
              go_roundw
              case rel => exact ⟨q + 1, true, _, by omega, by go_num, rfl, hnn, rfl, hio2, by rw [e2.out]; exact ho, hcn, hB4, hB5⟩
              case measure => simp [intOf]; omega
            | true =>
              obtain ⟨a, z, hz0, hz1', e1, e2⟩ := part_on (x := x1) (by rw [← hn1.out]; exact hi) hb.out.symm
              rw [e1] at hown
              replace e2 := Lib.hid e2
              clear hi hio e1
              obtain ⟨m', hm⟩ : ∃ m, L.length = m := ⟨_, rfl⟩
              obtain ⟨gv, cv, rfl⟩ := own_form hown (by simp)
              rw [show (L ++ [(a, z)]).length = m' + 1 by simp [hm]] at hown ⊢
              obtain ⟨hown4, f0, f1, f2⟩ := hown.bump hm
              simp only [] at hown4 f0
              have hm3 : m' ≤ 1000000 := by omega
              have fw1 : IntKind.i64.wrap ((m' : Int) + 1 - 1) = (m' : Int) := by rw [IntKind.wrap_i64]; omega
              have fw2 : IntKind.i64.wrap (m' : Int) = (m' : Int) := by rw [IntKind.wrap_i64]; omega
              have fw3 : (0 : Int) ≤ (m' : Int) := by omega
              have fw4 : (m' : Int) < (m' : Int) + 1 := by omega
              have fw5 : z ≤ 1000000 := by omega
              replace hm := Lib.hid hm
              have hcn : C2 (wr.setCell ⟨gv, m' * 2 + 1, none⟩ (.int .i64 (z + 1))) w.heap.size (.int .i64 s1) (.int .i64 s2) := ⟨by rw [World.cell?_setCell_other _ _ _ _ (by intro h; simp only [Addr.mk.injEq] at h; omega)]; exact hc.1, by rw [World.cell?_setCell_other _ _ _ _ (by intro h; simp only [Addr.mk.injEq] at h; omega)]; exact hc.2⟩
              have hB4 : Below w.heap.size w (wr.setCell ⟨gv, m' * 2 + 1, none⟩ (.int .i64 (z + 1))) := hB.setCell (by simp only []; omega) _
              have hB5 : Below w1.heap.size w1 (wr.setCell ⟨gv, m' * 2 + 1, none⟩ (.int .i64 (z + 1))) := hBb.setCell (by simp only []; omega) _
              clear hown hc hB hBb
              go_wp2_with fail
              go_roundw
              case rel => exact ⟨q + 1, true, _, by omega, by go_num, rfl, hnn, rfl, hio2, by rw [e2.out]; exact hown4, hcn, hB4, hB5⟩
              case measure => simp [intOf]; omega
        · obtain rfl : q = m := by omega
          have hfin := Lib.hid (show L ++ partL n0 (s1, s2) x1 q = interL (s1, s2) 0 (l.take (k + 1)) ∧ n1 = totS (l.take (k + 1)) from ⟨by rw [p8.out]; rfl, by rw [p7.out, hn1.out]⟩)
          go_wp2_with fail
          go_roundw
          case rel => exact ⟨k + 1, _, _, by omega, by go_num, rfl, hfin, hown, hc, hB, hBb⟩
          case measure => simp [intOf]; omega
    · obtain rfl : k = N := by omega
      have hR := Lib.hid (show L = interL (s1, s2) 0 l from by rw [hLn.out.1, hE.out])
      go_wp2_with fail
      go_ret
      exact ⟨_, rfl, by rw [← hR.out]; exact hown.mono (by omega), hB⟩

theorem refCut_any (v : Value) (l : List Sp) (s : Sp) (w : World) (hl : PBs l) (hlen : l.length ≤ 1000) (hs1 : -2199023255552 ≤ s.1) (hs2 : s.1 ≤ 2199023255552) (hs3 : -2199023255552 ≤ s.2) (hs4 : s.2 ≤ 2199023255552) (hv : PL w v l) :
    Calls Try.prog 16 #[v, .agg #[.int .i64 s.1, .int .i64 s.2]] w fun e w' => ∃ v', e = .returned v' ∧ OwnSp w' w.heap.size v' (cutL l s) ∧ Below w.heap.size w w' := by
  obtain ⟨T, hT⟩ : ∃ T, (placesL l).length = T := ⟨_, rfl⟩
  have h1 := placesL_len l hl
  have h2 : totS l = (T : Int) := by omega
  by_cases hno : s.2 < 1 ∨ s.1 < 0 ∨ (T : Int) < s.1 ∨ (T : Int) - s.1 < s.2
  · have e : cutL l s = [] := by
      unfold cutL
      by_cases h : s.1 < 0 ∨ s.2 < 1
      · rw [if_pos h]
      · rw [if_neg h, if_neg (by omega)]
    rw [e]
    exact refCut_no v l s w hl hlen hs1 hs2 hs3 hs4 hv T hT hno
  · have e : cutL l s = interL s 0 l := by
      unfold cutL
      rw [if_neg (by omega), if_pos (by omega)]
    rw [e]
    exact refCut_yes v l s w hl hlen hs1 hs2 hs3 hs4 hv T hT (by omega) (by omega) (by omega) (by omega)
end Go.Proofs.Ytddfhgdejlkdgaa
