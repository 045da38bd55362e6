/-
  The laws of package span: SpanOrder.
-/
import Derived.Test.YthklgmpphfdfoaaSpan10
import Derived.Test.YthklgmpphfdfoaaSpan9
import Derived.Test.YthklgmpphfdfoaaSpan4w
set_option linter.unusedVariables false
namespace Go.Proofs.Ythklgmpphfdfoaa
open Go.RowKit

theorem addF_sb {t : AddSt} {x : Sp} (h : SBs t.b ∧ SBs t.a ∧ SB t.s) (hx : SB x) : SBs (addF t x).b ∧ SBs (addF t x).a ∧ SB (addF t x).s := by
  obtain ⟨h1, h2, h3⟩ := h
  unfold addF
  split
  · exact ⟨fun y hy => by
      have hy2 : y ∈ t.b ++ [x] := hy
      rcases List.mem_append.1 hy2 with hy | hy
      · exact h1 y hy
      · simp at hy; subst hy; exact hx, h2, h3⟩
  · split
    · exact ⟨h1, fun y hy => by
        have hy2 : y ∈ t.a ++ [x] := hy
        rcases List.mem_append.1 hy2 with hy | hy
        · exact h2 y hy
        · simp at hy; subst hy; exact hx, h3⟩
    · exact ⟨h1, h2, h3.both hx⟩
theorem addF_n (t : AddSt) (x : Sp) : (addF t x).b.length + (addF t x).a.length ≤ t.b.length + t.a.length + 1 := by
  unfold addF
  split
  · simp; omega
  · split
    · simp; omega
    · simp
theorem addAll_sb (l : List Sp) : ∀ t : AddSt, SBs t.b ∧ SBs t.a ∧ SB t.s → SBs l → (SBs (l.foldl addF t).b ∧ SBs (l.foldl addF t).a ∧ SB (l.foldl addF t).s) ∧ (l.foldl addF t).b.length + (l.foldl addF t).a.length ≤ t.b.length + t.a.length + l.length := by
  induction l with
  | nil => intro t h _; exact ⟨h, by simp⟩
  | cons x l ih =>
    intro t h hl
    have := ih (addF t x) (addF_sb h (hl x (by simp))) (fun y hy => hl y (by simp [hy]))
    have hn := addF_n t x
    rw [List.foldl_cons]
    exact ⟨this.1, by have := this.2; simp only [List.length_cons]; omega⟩
theorem addS_sb {l : List Sp} {s : Sp} (hl : SBs l) (hs : SB s) : SBs (addS l s) ∧ (addS l s).length ≤ l.length + 1 := by
  obtain ⟨⟨h1, h2, h3⟩, h4⟩ := addAll_sb l ⟨[], [], s⟩ ⟨fun x hx => by simp at hx, fun x hx => by simp at hx, hs⟩ hl
  simp only [List.length_nil, Nat.zero_add] at h4
  unfold addS addAll
  constructor
  · intro x hx
    simp only [List.mem_append] at hx
    rcases hx with (hx | hx) | hx
    · exact h1 x hx
    · split at hx
      · simp at hx
      · simp at hx; subst hx; exact h3
    · exact h2 x hx
  · simp only [List.length_append]
    split <;> simp <;> omega
/-- spans, added one by one -/
def addN (f : Nat → Sp) : Nat → List Sp
  | 0 => []
  | k + 1 => addS (addN f k) (f k)
theorem addN_ok (f : Nat → Sp) : ∀ k : Nat, (∀ i, i < k → SB (f i)) → SRight (addN f k) ∧ SBs (addN f k) ∧ (addN f k).length ≤ k ∧ ∀ w, SHas (addN f k) w ↔ ∃ i, i < k ∧ SIn (f i) w
  | 0, _ => ⟨SRight.nil, fun x hx => by simp [addN] at hx, by simp [addN], fun w => ⟨fun h => absurd h (SHas.nil w), fun ⟨i, h, _⟩ => by omega⟩⟩
  | k + 1, h => by
    obtain ⟨h1, h2, h3, h4⟩ := addN_ok f k (fun i hi => h i (by omega))
    obtain ⟨h5, h6⟩ := addS_sb h2 (h k (by omega))
    refine ⟨addS_right h1, h5, by simp only [addN]; omega, fun w => ?_⟩
    show SHas (addS (addN f k) (f k)) w ↔ _
    rw [addS_has h1, h4]
    constructor
    · rintro (⟨i, hi, k⟩ | hk)
      · exact ⟨i, by omega, k⟩
      · exact ⟨k, by omega, hk⟩
    · rintro ⟨i, hi, hw⟩
      by_cases e : i = k
      · subst e; exact .inr hw
      · exact .inl ⟨i, by omega, hw⟩
theorem addN_congr (f g : Nat → Sp) : ∀ k : Nat, (∀ i, i < k → f i = g i) → addN f k = addN g k
  | 0, _ => rfl
  | k + 1, h => by
    show addS _ _ = addS _ _
    rw [addN_congr f g k (fun i hi => h i (by omega)), h k (by omega)]
theorem rot_hit (n d j : Nat) (hj : j < n) : ∃ i, i < n ∧ (i + d) % n = j := by
  have hn : 0 < n := by omega
  have hr := Nat.mod_lt d hn
  by_cases h : d % n ≤ j
  · refine ⟨j - d % n, by omega, ?_⟩
    rw [Nat.add_mod, Nat.mod_eq_of_lt (show j - d % n < n by omega), Nat.sub_add_cancel h, Nat.mod_eq_of_lt hj]
  · refine ⟨j + n - d % n, by omega, ?_⟩
    rw [Nat.add_mod, Nat.mod_eq_of_lt (show j + n - d % n < n by omega), Nat.sub_add_cancel (by omega), Nat.add_mod_right, Nat.mod_eq_of_lt hj]
theorem addN_rot (f : Nat → Sp) (n d : Nat) (h : ∀ i, i < n → SB (f i)) : addN f n = addN (fun i => f ((i + d) % n)) n := by
  by_cases hn : n = 0
  · subst hn; rfl
  have hm : ∀ i, (i + d) % n < n := fun i => Nat.mod_lt _ (by omega)
  obtain ⟨h1, _, _, h4⟩ := addN_ok f n h
  obtain ⟨k1, _, _, k4⟩ := addN_ok (fun i => f ((i + d) % n)) n (fun i _ => h _ (hm i))
  refine SRight.eq h1 k1 (fun w => ?_)
  rw [h4, k4]
  constructor
  · rintro ⟨j, hj, hw⟩
    obtain ⟨i, hi, e⟩ := rot_hit n d j hj
    exact ⟨i, hi, by rw [e]; exact hw⟩
  · rintro ⟨i, hi, hw⟩
    exact ⟨_, hm i, hw⟩
theorem addN_cov (f : Nat → Sp) (n i : Nat) (hi : i < n) (h : ∀ i, i < n → SB (f i)) : covS (addN f n) (f i) = true ∧ addS (addN f n) (f i) = addN f n := by
  obtain ⟨h1, _, _, h4⟩ := addN_ok f n h
  refine ⟨(covS_iff h1).2 (fun w hw => (h4 w).2 ⟨i, hi, hw⟩), SRight.eq (addS_right h1) h1 (fun w => ?_)⟩
  rw [addS_has h1]
  exact ⟨fun k => k.elim id (fun hw => (h4 w).2 ⟨i, hi, hw⟩), .inl⟩

theorem addFW_pi {t : AddSt} {x : Sp} (h : PI t.b ∧ PI t.a ∧ PW t.s) (hx : PW x) : PI (addFW t x).b ∧ PI (addFW t x).a ∧ PW (addFW t x).s := by
  obtain ⟨h1, h2, h3⟩ := h
  unfold addFW
  split
  · exact ⟨fun y hy => by
      have hy2 : y ∈ t.b ++ [x] := hy
      rcases List.mem_append.1 hy2 with hy | hy
      · exact h1 y hy
      · simp at hy; subst hy; exact hx, h2, h3⟩
  · split
    · exact ⟨h1, fun y hy => by
        have hy2 : y ∈ t.a ++ [x] := hy
        rcases List.mem_append.1 hy2 with hy | hy
        · exact h2 y hy
        · simp at hy; subst hy; exact hx, h3⟩
    · exact ⟨h1, h2, PW.both h3 hx⟩
theorem addFW_n (t : AddSt) (x : Sp) : (addFW t x).b.length + (addFW t x).a.length ≤ t.b.length + t.a.length + 1 := by
  unfold addFW
  split
  · simp; omega
  · split
    · simp; omega
    · simp
theorem addAllW_pi (l : List Sp) : ∀ t : AddSt, PI t.b ∧ PI t.a ∧ PW t.s → PI l → (PI (l.foldl addFW t).b ∧ PI (l.foldl addFW t).a ∧ PW (l.foldl addFW t).s) ∧ (l.foldl addFW t).b.length + (l.foldl addFW t).a.length ≤ t.b.length + t.a.length + l.length := by
  induction l with
  | nil => intro t h _; exact ⟨h, by simp⟩
  | cons x l ih =>
    intro t h hl
    have := ih (addFW t x) (addFW_pi h (hl x (by simp))) (fun y hy => hl y (by simp [hy]))
    have hn := addFW_n t x
    rw [List.foldl_cons]
    exact ⟨this.1, by have := this.2; simp only [List.length_cons]; omega⟩
theorem addSW_pi {l : List Sp} {s : Sp} (hl : PI l) (hs : PW s) : PI (addSW l s) ∧ (addSW l s).length ≤ l.length + 1 := by
  obtain ⟨⟨h1, h2, h3⟩, h4⟩ := addAllW_pi l ⟨[], [], s⟩ ⟨fun x hx => by simp at hx, fun x hx => by simp at hx, hs⟩ hl
  simp only [List.length_nil, Nat.zero_add] at h4
  unfold addSW addAllW
  constructor
  · intro x hx
    simp only [List.mem_append] at hx
    rcases hx with (hx | hx) | hx
    · exact h1 x hx
    · split at hx
      · simp at hx
      · simp at hx; subst hx; exact h3
    · exact h2 x hx
  · simp only [List.length_append]
    split <;> simp <;> omega
theorem foldW_eq (l : List Sp) : ∀ t : AddSt, SB t.s → SBs l → l.foldl addFW t = l.foldl addF t := by
  induction l with
  | nil => intro t _ _; rfl
  | cons x l ih =>
    intro t ht hl
    have hx := hl x (by simp)
    have e : addFW t x = addF t x := by
      unfold addFW addF
      rw [endW_eq hx, endW_eq ht, bothW_eq ht hx]
    have h2 : SB (addF t x).s := by
      unfold addF
      split
      · exact ht
      · split
        · exact ht
        · exact ht.both hx
    rw [List.foldl_cons, List.foldl_cons, e]
    exact ih _ h2 (fun y hy => hl y (by simp [hy]))
theorem addSW_eq {l : List Sp} {s : Sp} (hl : SBs l) (hs : SB s) : addSW l s = addS l s := by
  unfold addSW addS addAllW addAll
  rw [foldW_eq l ⟨[], [], s⟩ hs hl]
/-- spans, added one by one, whatever they are -/
def addNW (f : Nat → Sp) : Nat → List Sp
  | 0 => []
  | k + 1 => addSW (addNW f k) (f k)
theorem addNW_ok (f : Nat → Sp) : ∀ k : Nat, (∀ i, i < k → PW (f i)) → PI (addNW f k) ∧ (addNW f k).length ≤ k
  | 0, _ => ⟨fun x hx => by simp [addNW] at hx, by simp [addNW]⟩
  | k + 1, h => by
    obtain ⟨h1, h2⟩ := addNW_ok f k (fun i hi => h i (by omega))
    obtain ⟨h3, h4⟩ := addSW_pi h1 (h k (by omega))
    exact ⟨h3, by simp only [addNW]; omega⟩
theorem addNW_eq (f : Nat → Sp) : ∀ k : Nat, (∀ i, i < k → SB (f i)) → addNW f k = addN f k
  | 0, _ => rfl
  | k + 1, h => by
    show addSW (addNW f k) (f k) = addS (addN f k) (f k)
    rw [addNW_eq f k (fun i hi => h i (by omega))]
    exact addSW_eq (addN_ok f k (fun i hi => h i (by omega))).2.1 (h k (by omega))

set_option maxHeartbeats 1000000 in
theorem spanOrder_big (v : Value) (l : List Sp) (d : Nat) (w : World) (hv : PL w v l) (hbig : 24 < l.length) :
    Calls Try.prog 11 #[v, .int .u8 d] w fun e w' => e = .returned (.bool true) ∧ Below w.heap.size w w' := by
  obtain ⟨A, cap, rfl, _⟩ := hv.form rfl
  have hb : (24 : Int) < (l.length : Int) := by omega
  clear hv
  go_enter Try.func11, Try.ntmps11
  go_wp2_with fail
  refine (awake04 _).mono ?_
  rintro e w1 ⟨rfl, hb1⟩
  go_wp2_with fail
  go_ret
  exact ⟨rfl, hb1⟩
theorem sb20 {s : Sp} (h : LB 1048576 s) : SB s := by
  obtain ⟨h1, h2, h3, h4⟩ := h
  unfold SB; omega
set_option maxRecDepth 10000 in
set_option maxHeartbeats 8000000 in
theorem spanOrder (v : Value) (l : List Sp) (d : Nat) (w : World) (hl : PI l) (hd : d ≤ 255) (hv : PL w v l) :
    Calls Try.prog 11 #[v, .int .u8 d] w fun e w' => e = .returned (.bool true) ∧ Below w.heap.size w w' := by
  by_cases hbig : 24 < l.length
  · exact spanOrder_big v l d w hv hbig
  obtain ⟨n, hn⟩ : ∃ n, l.length = n := ⟨_, rfl⟩
  obtain ⟨A, cap, rfl, hC⟩ := hv.form hn
  have hln : n ≤ 24 := by omega
  have hb : ¬ (24 : Int) < (n : Int) := by omega
  have hP := Lib.hid (fun i (hi : i < n) => show -9223372036854775808 ≤ (l.getD i (0, 0)).1 ∧ (l.getD i (0, 0)).1 ≤ 9223372036854775807 ∧ -9223372036854775808 ≤ (l.getD i (0, 0)).2 ∧ (l.getD i (0, 0)).2 ≤ 9223372036854775807 from by
    rw [List.getD_eq_getElem?_getD, List.getElem?_eq_getElem (by omega)]
    exact hl _ (List.getElem_mem _))
  obtain ⟨f, hf⟩ : ∃ f : Nat → Sp, f = fun i => l.getD i (0, 0) := ⟨_, rfl⟩
  have hfi : ∀ i, l.getD i (0, 0) = f i := fun i => by rw [hf]
  simp only [hfi] at hC hP
  replace hC := Lib.hid hC
  clear hbig hv hl hfi hf hn
  go_enter Try.func11, Try.ntmps11
  go_wp2_with fail
  refine (awake04 _).mono ?_
  rintro e w1 ⟨rfl, hb1⟩
  go_wp2_with fail
  go_loopw [6, 7, 8] (fun va vb x wr => ∃ (k : Nat) (PA PB : List Sp), k ≤ n ∧ x = .int .i64 k ∧ Hid (PA = addN f k) ∧ Hid (PB = addNW (fun i => f ((i + d) % n)) k) ∧ PL wr va PA ∧ PL wr vb PB ∧ Hid (∀ j, j < k → LB 1048576 (f j)) ∧ Below w.heap.size w wr) (fun _ _ x _ => n + 1 - (intOf x).toNat)
  case atStart => exact ⟨0, [], [], Nat.zero_le _, rfl, rfl, rfl, PL.nil _ _ _, PL.nil _ _ _, fun j hj => by omega, hb1⟩
  case round =>
    obtain ⟨k, PA, PB, hk, rfl, hPA, hPB, pA, pB, hL, hB⟩ := hrel
    by_cases hlt : k < n
    · obtain ⟨g, off, rfl, hcap, hg, c0, c1⟩ := hC.out wr k hB hlt
      have hlt' : (k : Int) < (n : Int) := by omega
      obtain ⟨p1, p2, p3, p4⟩ := hP.out k hlt
      have hL2 := Lib.hid (fun (h : LB 1048576 (f k)) j (hj : j < k + 1) => show LB 1048576 (f j) from by
        by_cases e : j = k
        · subst e; exact h
        · exact hL.out j (by omega))
      have hs1 := Lib.hid (show addS PA (f k) = addN f (k + 1) from by rw [hPA.out]; rfl)
      have hoA := Lib.hid (addN_ok f k (fun i hi => sb20 (hL.out i hi)))
      have hoB := Lib.hid (addNW_ok (fun i => f ((i + d) % n)) k (fun i hi => hP.out _ (Nat.mod_lt _ (by omega))))
      rw [← hPA.out] at hoA
      rw [← hPB.out] at hoB
      obtain ⟨j, hj⟩ : ∃ j, j = (k + d) % n := ⟨_, rfl⟩
      have hjn : j < n := by rw [hj]; exact Nat.mod_lt _ (by omega)
      have hs2 := Lib.hid (show addSW PB (f j) = addNW (fun i => f ((i + d) % n)) (k + 1) from by rw [hPB.out, hj]; rfl)
      have hmod : (((k : Int) + (d : Int)) % (n : Int)) = (j : Int) := by rw [hj]; simp
      have hfj := Lib.hid (show j < n from hjn)
      obtain ⟨s, hs⟩ : ∃ s, s = f k := ⟨_, rfl⟩
      rw [← hs] at c0 c1 p1 p2 p3 p4 hL2 hs1
      replace hs := Lib.hid hs
      replace hmod := Lib.hid hmod
      clear hj
      by_cases q1 : s.1 < -1048576
      · go_wp2_with fail
        go_ret
        exact ⟨rfl, hB⟩
      have q1' : -1048576 ≤ s.1 := by omega
      clear q1
      by_cases q2 : 1048576 < s.1
      · go_wp2_with fail
        go_ret
        exact ⟨rfl, hB⟩
      have q2' : s.1 ≤ 1048576 := by omega
      clear q2
      by_cases q3 : s.2 < -1048576
      · go_wp2_with fail
        go_ret
        exact ⟨rfl, hB⟩
      have q3' : -1048576 ≤ s.2 := by omega
      clear q3
      by_cases q4 : 1048576 < s.2
      · go_wp2_with fail
        go_ret
        exact ⟨rfl, hB⟩
      have q4' : s.2 ≤ 1048576 := by omega
      clear q4
      have hLs : LB 1048576 s := ⟨q1', q2', q3', q4'⟩
      have hL3 := Lib.hid (hL2.out hLs)
      go_wp2_with fail
      refine (add_any _ PA s _ hoA.out.2.1 (by have := hoA.out.2.2.1; omega) (sb20 hLs) pA).mono ?_
      rintro e w2 ⟨v2, rfl, ho2, hb2⟩
      have hB2 := hB.trans (hb2.mono hB.size)
      have pA2 := ho2.pl
      have pB2 := pB.keep hb2
      clear ho2 hb2 hB pA pB c0 c1
      obtain ⟨g', off', hA', _, _, d0, d1⟩ := hC.out w2 j hB2 hfj.out
      simp only [Option.some.injEq, Addr.mk.injEq, and_true] at hA'
      obtain ⟨rfl, rfl⟩ := hA'
      have hj1 : (j : Int) < (n : Int) := by omega
      have hj0 : (0 : Int) ≤ (j : Int) := by omega
      have hwr : IntKind.i64.wrap ((k : Int) + (d : Int)) = (k : Int) + (d : Int) := by rw [IntKind.wrap_i64]; omega
      have hPj := hP.out j hfj.out
      have hmod2 := hmod.out
      generalize f j = t at *
      replace hPj := Lib.hid hPj
      go_wp2_with fail
      refine (add_wild _ PB t _ hoB.out.1 (by have := hoB.out.2; omega) hPj.out pB2).mono ?_
      rintro e w3 ⟨v3, rfl, ho3, hb3⟩
      have hB3 := hB2.trans (hb3.mono hB2.size)
      have pB3 := ho3.pl
      have pA3 := pA2.keep hb3
      clear ho3 hb3 hB2 pA2 pB2 d0 d1 hmod2 hwr
      go_wp2_with fail
      go_roundw
      case rel => exact ⟨k + 1, _, _, by omega, by go_num, hs1, hs2, pA3, pB3, hL3, hB3⟩
      case measure => simp [intOf]; omega
    · obtain rfl : k = n := by omega
      have hSB : ∀ i, i < k → SB (f i) := fun i hi => sb20 (hL.out i hi)
      have hAB : PB = PA := by
        rw [hPB.out, addNW_eq _ k (fun i hi => hSB _ (Nat.mod_lt _ (by omega))), hPA.out]
        exact (addN_rot f k d hSB).symm
      obtain ⟨o1, o2, o3, _⟩ := addN_ok f k hSB
      have hcov := Lib.hid (fun i (hi : i < k) => addN_cov f k i hi hSB)
      rw [← hPA.out] at o1 o2 o3 hcov
      subst hAB
      replace hSB := Lib.hid hSB
      replace o2 := Lib.hid o2
      have o1' := Lib.hid ((rightB_iff _).2 o1)
      replace o1 := Lib.hid o1
      clear hL hPA hPB
      go_wp2_with fail
      go_loopw [9] (fun x wq => ∃ m : Nat, m ≤ k ∧ x = .int .i64 m ∧ PL wq u6 PB ∧ PL wq u7 PB ∧ Below w.heap.size w wq) (fun x _ => k + 1 - (intOf x).toNat)
      case atStart => exact ⟨0, Nat.zero_le _, rfl, pA, pB, hB⟩
      case round =>
        clear pA pB hB
        obtain ⟨m, hm, rfl, pA, pB, hB⟩ := hrel
        by_cases hlt2 : m < k
        · obtain ⟨g, off, rfl, hcap, hg, c0, c1⟩ := hC.out wr m hB hlt2
          have hlt2' : (m : Int) < (k : Int) := by omega
          have hs := hSB.out m hlt2
          have hcv := (hcov.out m hlt2).1
          have had := (hcov.out m hlt2).2
          obtain ⟨s, hsf⟩ : ∃ s, s = f m := ⟨_, rfl⟩
          rw [← hsf] at c0 c1 hs hcv had
          replace hsf := Lib.hid hsf
          have h1 := covers_any u6 PB s wr o2.out (by omega) hs pA
          rw [hcv] at h1
          replace h1 := Lib.hid h1
          have h2 := fun w1 hb => add_any u6 PB s w1 o2.out (by omega) hs (pA.keep hb)
          rw [had] at h2
          replace h2 := Lib.hid h2
          clear hcv had
          go_wp2_with fail
          refine h1.out.mono ?_
          rintro e w2 ⟨rfl, hb2⟩
          have hB2 := hB.trans (hb2.mono hB.size)
          have d0 := ((bcell hb2).1 g _ hg).trans c0
          have d1 := ((bcell hb2).1 g _ hg).trans c1
          have pA2 := pA.keep hb2
          have pB2 := pB.keep hb2
          have h3 := Lib.hid (h2.out _ hb2)
          clear h1 h2 c0 c1
          go_wp2_with fail
          refine h3.out.mono ?_
          rintro e w3 ⟨v3, rfl, ho3, hb3⟩
          have hB3 := hB2.trans (hb3.mono hB2.size)
          have pC3 := ho3.pl
          have pA3 := pA2.keep hb3
          have pB3 := pB2.keep hb3
          have h4 := same_any v3 u6 PB PB w3 (by omega) pC3 pA3
          rw [show decide (PB = PB) = true from by simp] at h4
          replace h4 := Lib.hid h4
          clear h3 d0 d1 pA2 pB2 ho3 hb3
          go_wp2_with fail
          refine h4.out.mono ?_
          rintro e w4 ⟨rfl, hb4⟩
          have hB4 := hB3.trans (hb4.mono hB3.size)
          have pA4 := pA3.keep hb4
          have pB4 := pB3.keep hb4
          clear h4 hb4 hB3 pA3 pB3 pC3
          go_wp2_with fail
          go_roundw
          case rel => exact ⟨m + 1, by omega, by go_num, pA4, pB4, hB4⟩
          case measure => simp [intOf]; omega
        · obtain rfl : m = k := by omega
          have h1 := same_any u6 u7 PB PB wr (by omega) pA pB
          rw [show decide (PB = PB) = true from by simp] at h1
          replace h1 := Lib.hid h1
          have h2 := fun w1 hb => right_any u6 PB w1 o2.out (by omega) (pA.keep hb)
          rw [o1'.out] at h2
          replace h2 := Lib.hid h2
          go_wp2_with fail
          refine h1.out.mono ?_
          rintro e w2 ⟨rfl, hb2⟩
          have hB2 := hB.trans (hb2.mono hB.size)
          have h3 := Lib.hid (h2.out _ hb2)
          clear h1 h2 hb2
          go_wp2_with fail
          refine h3.out.mono ?_
          rintro e w3 ⟨rfl, hb3⟩
          have hB3 := hB2.trans (hb3.mono hB2.size)
          clear h3 hb3
          go_wp2_with fail
          go_ret
          exact ⟨rfl, hB3⟩
end Go.Proofs.Ythklgmpphfdfoaa
