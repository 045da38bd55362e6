/-
  Package piece: Few, Cut, At.
-/
import Derived.Test.YtddfhgdejlkdgaaPc3
set_option linter.unusedVariables false
set_option linter.unusedSimpArgs false
namespace Go.Proofs.Ytddfhgdejlkdgaa
open Go.RowKit

/-- what of a piece, that lies behind n words, is asked for -/
def inter1 (n : Int) (s x : Sp) : List Sp := if max (s.1 - n) 0 < min (s.1 + s.2 - n) x.2 then [(x.1 + max (s.1 - n) 0, min (s.1 + s.2 - n) x.2 - max (s.1 - n) 0)] else []
def interL (s : Sp) : Int → List Sp → List Sp
  | _, [] => []
  | n, x :: l => inter1 n s x ++ interL s (n + x.2) l
theorem interL_app (s : Sp) (l m : List Sp) : ∀ n : Int, interL s n (l ++ m) = interL s n l ++ interL s (n + totS l) m := by
  induction l with
  | nil => intro n; simp [interL, totS_nil]
  | cons x l ih =>
    intro n
    simp only [List.cons_append, interL]
    rw [ih, totS_cons, List.append_assoc, show n + x.2 + totS l = n + (x.2 + totS l) by omega]
theorem interL_take (s : Sp) (l : List Sp) (k : Nat) (h : k < l.length) : interL s 0 (l.take (k + 1)) = interL s 0 (l.take k) ++ inter1 (totS (l.take k)) s (l.getD k (0, 0)) := by
  rw [List.take_succ_eq_append_getElem h, interL_app, List.getD_eq_getElem?_getD, List.getElem?_eq_getElem h]
  simp [interL]
def Npos (l : List Sp) : Prop := ∀ x ∈ l, 0 ≤ x.2
theorem interL_out (s : Sp) : ∀ (l : List Sp) (n : Int), Npos l → s.1 + s.2 ≤ n → interL s n l = []
  | [], _, _, _ => rfl
  | x :: l, n, h, hn => by
    have hx := h x (by simp)
    simp only [interL]
    rw [interL_out s l (n + x.2) (fun y hy => h y (by simp [hy])) (by omega)]
    unfold inter1
    rw [if_neg (by omega)]
    rfl
theorem tot_nn {l : List Sp} (h : Npos l) : 0 ≤ totS l := by
  induction l with
  | nil => simp [totS_nil]
  | cons x l ih =>
    rw [totS_cons]
    have := h x (by simp)
    have := ih (fun y hy => h y (by simp [hy]))
    omega
/-- how many words of what is asked for lie ahead of n -/
def posS (s : Sp) (n : Int) : Int := max 0 (min (n - s.1) s.2)
theorem inter1_tot (s x : Sp) (n : Int) (hs : 0 ≤ s.2) (hx : 0 ≤ x.2) : totS (inter1 n s x) = posS s (n + x.2) - posS s n := by
  unfold inter1 posS
  split
  · rw [totS_cons, totS_nil]; simp only []; omega
  · rw [totS_nil]; omega
theorem interL_tot (s : Sp) (hs : 0 ≤ s.2) : ∀ (l : List Sp) (n : Int), Npos l → totS (interL s n l) = posS s (n + totS l) - posS s n
  | [], n, _ => by simp [interL, totS_nil]
  | x :: l, n, h => by
    simp only [interL]
    rw [totS_app, inter1_tot s x n hs (h x (by simp)), interL_tot s hs l _ (fun y hy => h y (by simp [hy])), totS_cons, show n + x.2 + totS l = n + (x.2 + totS l) by omega]
    omega
theorem interL_npos (s : Sp) : ∀ (l : List Sp) (n : Int), Npos (interL s n l)
  | [], _ => fun x hx => by simp [interL] at hx
  | x :: l, n => fun y hy => by
    simp only [interL, List.mem_append] at hy
    rcases hy with hy | hy
    · unfold inter1 at hy
      split at hy
      · simp at hy; subst hy; simp only []; omega
      · simp at hy
    · exact interL_npos s l _ y hy
/-- cut again it is cut of the log -/
theorem interL_twice (s t : Sp) (h1 : 0 ≤ t.1) (h2 : t.1 + t.2 ≤ s.2) : ∀ (l : List Sp) (n : Int), Npos l → interL t (posS s n) (interL s n l) = interL (s.1 + t.1, t.2) n l
  | [], _, _ => rfl
  | x :: l, n, h => by
    have hx := h x (by simp)
    have ih := interL_twice s t h1 h2 l (n + x.2) (fun y hy => h y (by simp [hy]))
    simp only [interL]
    by_cases q : max (s.1 - n) 0 < min (s.1 + s.2 - n) x.2
    · have e : inter1 n s x = [(x.1 + max (s.1 - n) 0, min (s.1 + s.2 - n) x.2 - max (s.1 - n) 0)] := by unfold inter1; rw [if_pos q]
      rw [e]
      simp only [List.cons_append, List.nil_append, interL]
      have hp : posS s n + (min (s.1 + s.2 - n) x.2 - max (s.1 - n) 0) = posS s (n + x.2) := by unfold posS; omega
      rw [hp, ih]
      congr 1
      unfold inter1 posS
      simp only []
      by_cases z : max (s.1 + t.1 - n) 0 < min (s.1 + t.1 + t.2 - n) x.2
      · rw [if_pos z, if_pos (by omega)]
        congr 1
        refine Prod.ext ?_ ?_ <;> simp only [] <;> omega
      · rw [if_neg z, if_neg (by omega)]
    · have e : inter1 n s x = [] := by unfold inter1; rw [if_neg q]
      have hp : posS s n = posS s (n + x.2) := by unfold posS; omega
      rw [e, List.nil_append, hp, ih]
      have e2 : inter1 n (s.1 + t.1, t.2) x = [] := by
        unfold inter1
        simp only []
        rw [if_neg (by omega)]
      rw [e2, List.nil_append]
def cutL (l : List Sp) (s : Sp) : List Sp := if s.1 < 0 ∨ s.2 < 1 then [] else if s.1 + s.2 ≤ totS l then interL s 0 l else []
def PB (x : Sp) : Prop := 0 ≤ x.1 ∧ 0 ≤ x.2 ∧ x.2 ≤ 1000 ∧ x.1 + x.2 ≤ 2199023255552
def PBs (l : List Sp) : Prop := ∀ x ∈ l, PB x
theorem PBs.at {l : List Sp} (h : PBs l) (i : Nat) (hi : i < l.length) : PB (l.getD i (0, 0)) := by
  rw [List.getD_eq_getElem?_getD, List.getElem?_eq_getElem hi]
  exact h _ (List.getElem_mem hi)
theorem PBs.np {l : List Sp} (h : PBs l) : Npos l := fun x hx => (h x hx).2.1
theorem PBs.sb {l : List Sp} (h : PBs l) : SBs l := fun x hx => by have := h x hx; unfold PB at this; unfold SB; omega
theorem PBs.tot (l : List Sp) (h : PBs l) : ∀ k, k ≤ l.length → 0 ≤ totS (l.take k) ∧ totS (l.take k) ≤ 1000 * (k : Int)
  | 0, _ => by simp [totS_nil]
  | k + 1, hk => by
    have := PBs.tot l h k (by omega)
    have hx := h.at k (by omega)
    unfold PB at hx
    rw [totS_take l k (by omega)]
    omega
theorem inter_pb (s : Sp) : ∀ (l : List Sp) (n : Int), PBs l → PBs (interL s n l) ∧ (interL s n l).length ≤ l.length
  | [], _, _ => ⟨fun x hx => by simp [interL] at hx, by simp [interL]⟩
  | x :: l, n, h => by
    have hx := h x (by simp)
    obtain ⟨i1, i2⟩ := inter_pb s l (n + x.2) (fun y hy => h y (by simp [hy]))
    unfold PB at hx
    simp only [interL]
    constructor
    · intro y hy
      rcases List.mem_append.1 hy with hy | hy
      · unfold inter1 at hy
        split at hy
        · simp at hy; subst hy; unfold PB; simp only []; omega
        · simp at hy
      · exact i1 y hy
    · unfold inter1
      split <;> simp <;> omega
theorem cut_pb {l : List Sp} (s : Sp) (h : PBs l) : PBs (cutL l s) ∧ (cutL l s).length ≤ l.length := by
  unfold cutL
  split
  · exact ⟨fun x hx => by simp at hx, by simp⟩
  · split
    · exact inter_pb s l 0 h
    · exact ⟨fun x hx => by simp at hx, by simp⟩

set_option maxRecDepth 10000 in
set_option maxHeartbeats 4000000 in
theorem cut_any (v : Value) (l : List Sp) (s : Sp) (w : World) (hl : PBs l) (hlen : l.length ≤ 1000) (hs1 : -2199023255552 ≤ s.1) (hs2 : s.1 ≤ 2199023255552) (hs3 : -2199023255552 ≤ s.2) (hs4 : s.2 ≤ 2199023255552) (hv : PL w v l) :
    Calls Try.prog 15 #[v, .agg #[.int .i64 s.1, .int .i64 s.2]] w fun e w' => ∃ v', e = .returned v' ∧ OwnSp w' w.heap.size v' (cutL l s) ∧ Below w.heap.size w w' := by
  obtain ⟨n, hn⟩ : ∃ n, l.length = n := ⟨_, rfl⟩
  obtain ⟨A, cap, rfl, hC⟩ := hv.form hn
  have hI := Lib.hid (fun i (hi : i < n) => hl.at i (by omega))
  have hT := Lib.hid (fun i (hi : i < n) => totS_take l i (by omega))
  have hTb := Lib.hid (fun i (hi : i ≤ n) => PBs.tot l hl i (by omega))
  have hS := Lib.hid (fun i (hi : i < n) => interL_take s l i (by omega))
  have hO := Lib.hid (fun i (hi : i ≤ n) (h : s.1 + s.2 ≤ totS (l.take i)) => show interL s 0 (l.take i) = interL s 0 l from by
    have h2 := interL_app s (l.take i) (l.drop i) 0
    rw [List.take_append_drop] at h2
    rw [h2, Int.zero_add, interL_out s (l.drop i) _ (fun x hx => hl.np x (List.mem_of_mem_drop hx)) h, List.append_nil])
  have hTm := Lib.hid (fun i (hi : i ≤ n) => show totS (l.take i) ≤ totS l from by
    have h2 := totS_app (l.take i) (l.drop i)
    rw [List.take_append_drop] at h2
    have := tot_nn (l := l.drop i) (fun x hx => hl.np x (List.mem_of_mem_drop hx))
    omega)
  have hE := Lib.hid (show l.take n = l from by rw [List.take_of_length_le (by omega)])
  have hnp := Lib.hid (tot_nn hl.np)
  replace hC := Lib.hid hC
  have hlen' : n ≤ 1000 := by omega
  have kk := C2.new w (.int .i64 s.1) (.int .i64 s.2) (24 : Nat)
  have hB0 : Below w.heap.size w (w.alloc (.cells #[.int .i64 s.1, .int .i64 s.2] (24 : Nat))) := (Below.refl _ _).alloc (Nat.le_refl _) _
  obtain ⟨k0, k1⟩ := id kk
  clear hl hlen hn
  by_cases hs5 : s.1 < 0
  · have hR := Lib.hid (show cutL l s = [] from by unfold cutL; rw [if_pos (.inl hs5)])
    go_enter Try.func15, Try.ntmps15
    go_wp2_with fail
    go_ret
    exact ⟨_, rfl, by rw [hR.out]; exact OwnSp.nil _ _, hB0⟩
  by_cases hs6 : s.2 < 1
  · have hR := Lib.hid (show cutL l s = [] from by unfold cutL; rw [if_pos (.inr hs6)])
    go_enter Try.func15, Try.ntmps15
    go_wp2_with fail
    go_ret
    exact ⟨_, rfl, by rw [hR.out]; exact OwnSp.nil _ _, hB0⟩
  have hcut := Lib.hid (show cutL l s = if s.1 + s.2 ≤ totS l then interL s 0 l else [] from by unfold cutL; rw [if_neg (by omega)])
  replace hs5 : 0 ≤ s.1 := by omega
  replace hs6 : 1 ≤ s.2 := by omega
  go_enter Try.func15, Try.ntmps15
  go_wp2_with fail
  go_region
  all_goals (try go_wp2_with fail)
  go_loopw [5, 6, 7, 25] (fun u sk lf x wr => ∃ (k : Nat) (S T : Int) (P : List Sp), k ≤ n ∧ x = .int .i64 k ∧ sk = .int .i64 S ∧ lf = .int .i64 T ∧ Hid (P = interL s 0 (l.take k)) ∧ Hid (S = max (s.1 - totS (l.take k)) 0) ∧ Hid (T = s.2 - posS s (totS (l.take k))) ∧ 0 ≤ S ∧ S ≤ 2199023255552 ∧ 0 ≤ T ∧ T ≤ 2199023255552 ∧ P.length ≤ k ∧ OwnSp wr w.heap.size u P ∧ Below w.heap.size w wr) (fun _ _ _ i _ => n + 1 - (intOf i).toNat)
  case atStart => exact ⟨0, s.1, s.2, [], Nat.zero_le _, rfl, rfl, rfl, rfl, by show s.1 = _; simp only [List.take_zero, totS_nil]; omega, by show s.2 = _; simp only [List.take_zero, totS_nil]; unfold posS; omega, hs5, hs2, by omega, hs4, by simp, OwnSp.nil _ _, by first | exact hB0.drew | exact dN hB0 _ | exact hB0⟩
  case round =>
    obtain ⟨k, S, T, P, hk, rfl, rfl, rfl, hP, hSk, hTk, b1, b2, b3, b4, hPl, hown, hB⟩ := hrel
    have hEnd0 := Lib.hid (fun (h : T = 0) => show cutL l s = P from by
      have ht : s.1 + s.2 ≤ totS (l.take k) := by
        have := hTk.out
        unfold posS at this; omega
      rw [hcut.out, if_pos (Int.le_trans ht (hTm.out k hk)), hP.out, hO.out k hk ht])
    by_cases hlt : k < n
    · obtain ⟨g, off, rfl, hcap, hg, c0, c1⟩ := hC.out wr k hB hlt
      have hlt' : (k : Int) < (n : Int) := by omega
      obtain ⟨x1, x2, x3, x4⟩ := hI.out k hlt
      have hT1 := hT.out k hlt
      have hS1 := hS.out k hlt
      have htb := hTb.out k hk
      rw [← hP.out] at hS1
      generalize l.getD k (0, 0) = x at *
      generalize totS (l.take k) = t at *
      obtain ⟨t', ht'⟩ : ∃ t', t' = totS (l.take (k + 1)) := ⟨_, rfl⟩
      obtain ⟨P', hP'⟩ : ∃ P', P' = interL s 0 (l.take (k + 1)) := ⟨_, rfl⟩
      rw [← ht'] at hT1
      rw [← hP'] at hS1
      replace ht' := Lib.hid ht'
      replace hP' := Lib.hid hP'
      have hBa := hB.alloc hB.size (.cells #[.int .i64 x.1, .int .i64 x.2] 24)
      have hoa : OwnSp (wr.alloc (.cells #[.int .i64 x.1, .int .i64 x.2] 24)) w.heap.size u5 P := hown.keep ((Below.refl _ _).alloc (Nat.le_refl _) _)
      by_cases hz : T = 0
      · have hR := Lib.hid (hEnd0.out hz)
        subst hz
        clear hT1 hS1 htb hEnd0
        go_wp2_with fail
        go_ret
        exact ⟨_, rfl, by rw [hR.out]; exact hoa, hBa⟩
      have hz1 : (T == 0) = false := by rw [beq_eq_false_iff_ne]; exact hz
      have hz2 : 0 < T := by omega
      clear hz hEnd0
      by_cases hsk : x.2 ≤ S
      · have r1 := Lib.hid (show P = P' from by
          rw [hS1]
          unfold inter1
          rw [if_neg (by have := hSk.out; omega), List.append_nil])
        have r2 := Lib.hid (show S - x.2 = max (s.1 - t') 0 from by have := hSk.out; omega)
        have r3 := Lib.hid (show T = s.2 - posS s t' from by
          have h1 := hSk.out
          have h2 := hTk.out
          unfold posS at h2 ⊢
          omega)
        clear hT1 hS1 htb
        go_wp2_with fail
        go_roundw
        case rel => exact ⟨k + 1, _, _, _, by omega, by go_num, rfl, rfl, by rw [r1.out, hP'.out]; rfl, by have h := r2.out; rw [ht'.out] at h; exact h, by rw [r3.out, ht'.out]; rfl, by omega, by omega, by omega, by omega, by omega, hoa, hBa⟩
        case measure => simp [intOf]; omega
      replace hsk : S < x.2 := by omega
      by_cases hmn : x.2 - S ≤ T
      · have r1 := Lib.hid (show P ++ [(x.1 + S, x.2 - S)] = P' from by
          have h1 := hSk.out
          have h2 := hTk.out
          rw [hS1]
          unfold posS at h2
          unfold inter1
          rw [if_pos (by omega)]
          congr 2
          refine Prod.ext ?_ ?_ <;> simp only [] <;> omega)
        have r2 := Lib.hid (show (0 : Int) = max (s.1 - t') 0 from by have := hSk.out; omega)
        have r3 := Lib.hid (show T - (x.2 - S) = s.2 - posS s t' from by
          have h1 := hSk.out
          have h2 := hTk.out
          unfold posS at h2 ⊢
          omega)
        clear hT1 hS1 htb
        obtain ⟨v', w2, hrun, ho, hg2, hl2⟩ := app1 (w := (wr.alloc (.cells #[.int .i64 x.1, .int .i64 x.2] 24)).alloc (.cells #[.int .i64 (x.1 + S), .int .i64 (x.2 - S)] (24 : Nat))) (l := P) (s := (x.1 + S, x.2 - S)) (base := w.heap.size) (hoa.keep ((Below.refl _ _).alloc (Nat.le_refl _) _)) (C2.new (wr.alloc (.cells #[.int .i64 x.1, .int .i64 x.2] 24)) (.int .i64 (x.1 + S)) (.int .i64 (x.2 - S)) (24 : Nat)) (by have := hBa.size; simp at *; omega) (by omega)
        have hB2 : Below w.heap.size w w2 := (hBa.alloc hBa.size _).grown hg2 (by have := hBa.size; simp at *; omega) (fun j hj => (hown.lt _ hj).1)
        simp only [World.size_alloc] at hrun
        clear hg2 hl2 hown hoa hBa hB
        go_wp2_with (at_builtin; refine wpList_append_run rfl _ _ 22 rfl _ _ _ rfl rfl hrun ?_)
        clear hrun
        go_wp2_with fail
        go_roundw
        case rel => exact ⟨k + 1, _, _, _, by omega, by go_num, rfl, rfl, by rw [r1.out, hP'.out]; rfl, by have h := r2.out; rw [ht'.out] at h; exact h, by rw [r3.out, ht'.out]; rfl, by omega, by omega, by omega, by omega, by simp; omega, ho, hB2⟩
        case measure => simp [intOf]; omega
      · have hmn2 : T < x.2 - S := by omega
        clear hmn
        have r1 := Lib.hid (show P ++ [(x.1 + S, T)] = P' from by
          have h1 := hSk.out
          have h2 := hTk.out
          rw [hS1]
          unfold posS at h2
          unfold inter1
          rw [if_pos (by omega)]
          congr 2
          refine Prod.ext ?_ ?_ <;> simp only [] <;> omega)
        have r2 := Lib.hid (show (0 : Int) = max (s.1 - t') 0 from by
          have h1 := hSk.out
          omega)
        have r3 := Lib.hid (show T - T = s.2 - posS s t' from by
          have h1 := hSk.out
          have h2 := hTk.out
          unfold posS at h2 ⊢
          omega)
        clear hT1 hS1 htb
        obtain ⟨v', w2, hrun, ho, hg2, hl2⟩ := app1 (w := (wr.alloc (.cells #[.int .i64 x.1, .int .i64 x.2] 24)).alloc (.cells #[.int .i64 (x.1 + S), .int .i64 T] (24 : Nat))) (l := P) (s := (x.1 + S, T)) (base := w.heap.size) (hoa.keep ((Below.refl _ _).alloc (Nat.le_refl _) _)) (C2.new (wr.alloc (.cells #[.int .i64 x.1, .int .i64 x.2] 24)) (.int .i64 (x.1 + S)) (.int .i64 T) (24 : Nat)) (by have := hBa.size; simp at *; omega) (by omega)
        have hB2 : Below w.heap.size w w2 := (hBa.alloc hBa.size _).grown hg2 (by have := hBa.size; simp at *; omega) (fun j hj => (hown.lt _ hj).1)
        simp only [World.size_alloc] at hrun
        clear hg2 hl2 hown hoa hBa hB
        go_wp2_with (at_builtin; refine wpList_append_run rfl _ _ 22 rfl _ _ _ rfl rfl hrun ?_)
        clear hrun
        go_wp2_with fail
        have r3' := r3.out
        rw [Int.sub_self] at r3'
        go_roundw
        case rel => exact ⟨k + 1, 0, 0, _, by omega, by go_num, rfl, rfl, by rw [r1.out, hP'.out]; rfl, by have h := r2.out; rw [ht'.out] at h; exact h, by rw [r3', ht'.out]; rfl, by omega, by omega, by omega, by omega, by simp; omega, ho, hB2⟩
        case measure => simp [intOf]; omega
    · obtain rfl : k = n := by omega
      by_cases hz : 0 < T
      · have hR := Lib.hid (show cutL l s = [] from by
          rw [hcut.out, if_neg]
          have := hTk.out
          rw [hE.out] at this
          have h0 := hnp.out
          unfold posS at this
          omega)
        go_wp2_with fail
        go_ret
        exact ⟨_, rfl, by rw [hR.out]; exact OwnSp.nil _ _, hB⟩
      · obtain rfl : T = 0 := by omega
        have hR := Lib.hid (hEnd0.out rfl)
        go_wp2_with fail
        go_ret
        exact ⟨_, rfl, by rw [hR.out]; exact hown, hB⟩
/-- the place of a word, or -1 -/
def headP (l : List Sp) : Int := match l with | [] => -1 | x :: _ => x.1
def atL (l : List Sp) (i : Int) : Int := headP (cutL l (i, 1))
set_option maxHeartbeats 1000000 in
theorem at_any (v : Value) (l : List Sp) (i : Int) (w : World) (hl : PBs l) (hlen : l.length ≤ 1000) (hs1 : -2199023255552 ≤ i) (hs2 : i ≤ 2199023255552) (hv : PL w v l) :
    Calls Try.prog 12 #[v, .int .i64 i] w fun e w' => e = .returned (.int .i64 (atL l i)) ∧ Below w.heap.size w w' := by
  have hC := Lib.hid (cut_any v l (i, 1) w hl hlen hs1 hs2 (by simp only []; omega) (by simp only []; omega) hv)
  have hA := Lib.hid (show atL l i = headP (cutL l (i, 1)) from rfl)
  clear hv
  generalize cutL l (i, 1) = P at *
  go_enter Try.func12, Try.ntmps12
  go_wp2_with fail
  refine hC.out.mono ?_
  rintro e w1 ⟨v1, rfl, ho, hb⟩
  cases P with
  | nil =>
    obtain ⟨A1, c1, rfl, _⟩ := ho.pl.form (n := 0) rfl
    clear ho
    go_wp2_with fail
    go_ret
    exact ⟨by rw [hA.out]; rfl, hb⟩
  | cons x P =>
    obtain ⟨m, hm⟩ : ∃ m, (x :: P).length = m + 1 := ⟨P.length, by simp⟩
    obtain ⟨A1, c1, rfl, hcc⟩ := ho.pl.form (n := m + 1) hm
    obtain ⟨g, off, rfl, _, _, d0, _⟩ := hcc w1 0 (Below.refl _ _) (by omega)
    simp only [Nat.zero_mul, Nat.add_zero, List.getD_cons_zero] at d0
    have q0 : (0 : Int) < ((m + 1 : Nat) : Int) := by omega
    have q1 : (((m + 1 : Nat) : Int) == 0) = false := by rw [beq_eq_false_iff_ne]; omega
    clear ho hcc hm
    go_wp2_with fail
    go_ret
    exact ⟨by rw [hA.out]; rfl, hb⟩
end Go.Proofs.Ytddfhgdejlkdgaa
