/-
  The laws of package span: SpanFills.
-/
import Derived.Test.YthklgmpphfdfoaaSpan11
import Derived.Test.YthklgmpphfdfoaaRegX
set_option linter.unusedVariables false
namespace Go.Proofs.Ythklgmpphfdfoaa
open Go.RowKit

theorem PL.one (w : World) (s : Sp) : PL (w.alloc (.cells #[.int .i64 s.1, .int .i64 s.2] (45 : Nat))) (.slice (some ⟨w.heap.size, 0, none⟩) 1 1) [s] := PL.lit w [s] (by simp)
theorem belowA (w : World) (o : Obj) : Below w.heap.size w (w.alloc o) := (Below.refl _ _).alloc (Nat.le_refl _) _
theorem missL_sb (e : Int) : ∀ (l : List Sp) (f : Int), SBs l → -4398046511104 ≤ f → f ≤ 4398046511104 → -4398046511104 ≤ e → e ≤ 4398046511104 → SBs (missL e f l)
  | [], f, _, h1, h2, h3, h4 => fun x hx => by
    unfold missL at hx
    rw [(gap_mem hx).1]
    unfold SB; simp only []; omega
  | x :: l, f, hl, h1, h2, h3, h4 => by
    have hx := hl x (by simp)
    unfold SB at hx
    intro y hy
    unfold missL at hy
    split at hy
    · rw [(gap_mem hy).1]
      unfold SB; simp only []; omega
    · rcases List.mem_append.1 hy with hy | hy
      · rw [(gap_mem hy).1]
        unfold SB; simp only []; omega
      · exact missL_sb e l _ (fun z hz => hl z (by simp [hz])) (by omega) (by omega) h3 h4 y hy
/-- a list's spans added one by one onto a set -/
def addM (S : List Sp) (M : List Sp) (k : Nat) : List Sp := (M.take k).foldl addS S
theorem addM_succ (S M : List Sp) (k : Nat) (h : k < M.length) : addM S M (k + 1) = addS (addM S M k) (M.getD k (0, 0)) := by
  unfold addM
  rw [List.take_succ_eq_append_getElem h, List.foldl_append, List.getD_eq_getElem?_getD, List.getElem?_eq_getElem h]
  rfl
theorem fold_ok (M : List Sp) : ∀ S : List Sp, SRight S → SBs S → SBs M → SRight (M.foldl addS S) ∧ SBs (M.foldl addS S) ∧ (M.foldl addS S).length ≤ S.length + M.length ∧ ∀ w, SHas (M.foldl addS S) w ↔ SHas S w ∨ SHas M w := by
  induction M with
  | nil => intro S h1 h2 _; exact ⟨h1, h2, by simp, fun w => ⟨.inl, fun h => h.elim id (fun h => absurd h (SHas.nil w))⟩⟩
  | cons x M ih =>
    intro S h1 h2 h3
    obtain ⟨k1, k2⟩ := addS_sb h2 (h3 x (by simp))
    obtain ⟨j1, j2, j3, j4⟩ := ih (addS S x) (addS_right h1) k1 (fun y hy => h3 y (by simp [hy]))
    refine ⟨j1, j2, by simp only [List.foldl_cons, List.length_cons]; omega, fun w => ?_⟩
    rw [List.foldl_cons, j4, addS_has h1, SHas.cons]
    constructor
    · rintro ((h | h) | h)
      · exact .inl h
      · exact .inr (.inl h)
      · exact .inr (.inr h)
    · rintro (h | h | h)
      · exact .inl (.inl h)
      · exact .inl (.inr h)
      · exact .inr h
theorem fills_end (S : List Sp) (s : Sp) (h1 : SRight S) (h2 : SBs S) (h3 : SB s) : (missS S s).foldl addS S = addS S s ∧ totS (addS S s) = totS S + totS (missS S s) ∧ missS (addS S s) s = [] := by
  have hm := missS_right (s := s) h1
  have hms : SBs (missS S s) := missL_sb _ _ _ h2 h3.1 h3.2.1 h3.2.2.1 h3.2.2.2
  obtain ⟨j1, j2, j3, j4⟩ := fold_ok (missS S s) S h1 h2 hms
  refine ⟨SRight.eq j1 (addS_right h1) (fun w => ?_), ?_, ?_⟩
  · rw [j4, addS_has h1, missS_has h1]
    constructor
    · rintro (h | h)
      · exact .inl h
      · exact .inr h.1
    · rintro (h | h)
      · exact .inl h
      · by_cases q : SHas S w
        · exact .inl q
        · exact .inr ⟨h, q⟩
  · have bnd : ∀ l : List Sp, SBs l → ∀ x ∈ l, (-4398046511104 : Int) ≤ x.1 ∧ x.1 + x.2 ≤ -4398046511104 + ((8796093022208 : Nat) : Int) := fun l hl x hx => by
      have := hl x hx
      unfold SB at this; omega
    refine tot_or h1 hm (addS_right h1) (fun w => ?_) (fun w hw k => ((missS_has h1 w).1 k).2 hw) (-4398046511104) 8796093022208 (bnd S h2) (bnd _ hms) (bnd _ (addS_sb h2 h3).1)
    rw [addS_has h1, missS_has h1]
    constructor
    · rintro (h | h)
      · exact .inl h
      · by_cases q : SHas S w
        · exact .inl q
        · exact .inr ⟨h, q⟩
    · rintro (h | h)
      · exact .inl h
      · exact .inr h.1
  · refine (missS_right (addS_right h1)).empty.2 (fun w k => ?_)
    obtain ⟨k1, k2⟩ := (missS_has (addS_right h1) w).1 k
    exact k2 ((addS_has h1 w).2 (.inr k1))
theorem fills_step (S : List Sp) (s y : Sp) (h1 : SRight S) (hy : y ∈ missS S s) : covS S y = false ∧ covS [s] y = true := by
  have hm := missS_right (s := s) h1
  have hy1 := hm.1 y hy
  have hin : ∀ w, SIn y w → SIn s w ∧ ¬ SHas S w := fun w hw => (missS_has h1 w).1 ⟨y, hy, hw⟩
  have hyy : SIn y y.1 := by unfold SIn; omega
  have hs := (hin y.1 hyy).1
  have hs1 : SRight [s] := SRight.one.2 (by unfold SIn at hs; omega)
  constructor
  · rw [Bool.eq_false_iff]
    intro q
    exact (hin y.1 hyy).2 ((covS_iff h1).1 q y.1 hyy)
  · exact (covS_iff hs1).2 (fun w hw => (SHas.one s w).2 (hin w hw).1)

set_option maxHeartbeats 1000000 in
theorem spanFills_big (a0 : Int) (s : Sp) (v : Value) (l : List Nat) (w : World) (hv : KL .u8 w v l) (hbig : 24 < l.length) :
    Calls Try.prog 12 #[.int .i8 a0, v, .agg #[.int .i64 s.1, .int .i64 s.2]] w fun e w' => e = .returned (.bool true) ∧ Below w.heap.size w w' := by
  obtain ⟨A, cap, rfl, _⟩ := hv.form rfl
  have hb : (24 : Int) < (l.length : Int) := by omega
  have hb0 := belowA w (.cells #[.int .i64 s.1, .int .i64 s.2] (45 : Nat))
  have kk := C2.new w (.int .i64 s.1) (.int .i64 s.2) (45 : Nat)
  clear hv
  go_enter Try.func12, Try.ntmps12
  go_wp2_with fail
  refine (awake04 _).mono ?_
  rintro e w1 ⟨rfl, hb1⟩
  have hB1 := hb0.trans (hb1.mono (by simp))
  obtain ⟨k0, k1⟩ := kk.keep hb1
  go_wp2_with fail
  go_ret
  exact ⟨rfl, hB1⟩
set_option maxHeartbeats 1000000 in
theorem spanFills_q1 (a0 : Int) (s : Sp) (v : Value) (l : List Nat) (w : World) (hv : KL .u8 w v l) (hn : l.length ≤ 24) (q1 : s.1 < -1048576) :
    Calls Try.prog 12 #[.int .i8 a0, v, .agg #[.int .i64 s.1, .int .i64 s.2]] w fun e w' => e = .returned (.bool true) ∧ Below w.heap.size w w' := by
  obtain ⟨A, cap, rfl, _⟩ := hv.form rfl
  have hb : ¬ (24 : Int) < (l.length : Int) := by omega
  have hb0 := belowA w (.cells #[.int .i64 s.1, .int .i64 s.2] (45 : Nat))
  have kk := C2.new w (.int .i64 s.1) (.int .i64 s.2) (45 : Nat)
  clear hv
  go_enter Try.func12, Try.ntmps12
  go_wp2_with fail
  refine (awake04 _).mono ?_
  rintro e w1 ⟨rfl, hb1⟩
  have hB1 := hb0.trans (hb1.mono (by simp))
  obtain ⟨k0, k1⟩ := kk.keep hb1
  go_wp2_with fail
  go_ret
  exact ⟨rfl, hB1⟩
set_option maxHeartbeats 1000000 in
theorem spanFills_q2 (a0 : Int) (s : Sp) (v : Value) (l : List Nat) (w : World) (hv : KL .u8 w v l) (hn : l.length ≤ 24) (q1 : -1048576 ≤ s.1) (q2 : 1048576 < s.1) :
    Calls Try.prog 12 #[.int .i8 a0, v, .agg #[.int .i64 s.1, .int .i64 s.2]] w fun e w' => e = .returned (.bool true) ∧ Below w.heap.size w w' := by
  obtain ⟨A, cap, rfl, _⟩ := hv.form rfl
  have hb : ¬ (24 : Int) < (l.length : Int) := by omega
  have hb0 := belowA w (.cells #[.int .i64 s.1, .int .i64 s.2] (45 : Nat))
  have kk := C2.new w (.int .i64 s.1) (.int .i64 s.2) (45 : Nat)
  clear hv
  go_enter Try.func12, Try.ntmps12
  go_wp2_with fail
  refine (awake04 _).mono ?_
  rintro e w1 ⟨rfl, hb1⟩
  have hB1 := hb0.trans (hb1.mono (by simp))
  obtain ⟨k0, k1⟩ := kk.keep hb1
  go_wp2_with fail
  go_ret
  exact ⟨rfl, hB1⟩
set_option maxHeartbeats 1000000 in
theorem spanFills_q3 (a0 : Int) (s : Sp) (v : Value) (l : List Nat) (w : World) (hv : KL .u8 w v l) (hn : l.length ≤ 24) (q1 : -1048576 ≤ s.1) (q2 : s.1 ≤ 1048576) (q3 : s.2 < -1048576) :
    Calls Try.prog 12 #[.int .i8 a0, v, .agg #[.int .i64 s.1, .int .i64 s.2]] w fun e w' => e = .returned (.bool true) ∧ Below w.heap.size w w' := by
  obtain ⟨A, cap, rfl, _⟩ := hv.form rfl
  have hb : ¬ (24 : Int) < (l.length : Int) := by omega
  have hb0 := belowA w (.cells #[.int .i64 s.1, .int .i64 s.2] (45 : Nat))
  have kk := C2.new w (.int .i64 s.1) (.int .i64 s.2) (45 : Nat)
  clear hv
  go_enter Try.func12, Try.ntmps12
  go_wp2_with fail
  refine (awake04 _).mono ?_
  rintro e w1 ⟨rfl, hb1⟩
  have hB1 := hb0.trans (hb1.mono (by simp))
  obtain ⟨k0, k1⟩ := kk.keep hb1
  go_wp2_with fail
  go_ret
  exact ⟨rfl, hB1⟩
set_option maxHeartbeats 1000000 in
theorem spanFills_q4 (a0 : Int) (s : Sp) (v : Value) (l : List Nat) (w : World) (hv : KL .u8 w v l) (hn : l.length ≤ 24) (q1 : -1048576 ≤ s.1) (q2 : s.1 ≤ 1048576) (q3 : -1048576 ≤ s.2) (q4 : 1048576 < s.2) :
    Calls Try.prog 12 #[.int .i8 a0, v, .agg #[.int .i64 s.1, .int .i64 s.2]] w fun e w' => e = .returned (.bool true) ∧ Below w.heap.size w w' := by
  obtain ⟨A, cap, rfl, _⟩ := hv.form rfl
  have hb : ¬ (24 : Int) < (l.length : Int) := by omega
  have hb0 := belowA w (.cells #[.int .i64 s.1, .int .i64 s.2] (45 : Nat))
  have kk := C2.new w (.int .i64 s.1) (.int .i64 s.2) (45 : Nat)
  clear hv
  go_enter Try.func12, Try.ntmps12
  go_wp2_with fail
  refine (awake04 _).mono ?_
  rintro e w1 ⟨rfl, hb1⟩
  have hB1 := hb0.trans (hb1.mono (by simp))
  obtain ⟨k0, k1⟩ := kk.keep hb1
  go_wp2_with fail
  go_ret
  exact ⟨rfl, hB1⟩
set_option maxRecDepth 10000 in
set_option maxHeartbeats 8000000 in
theorem spanFills_in (a0 : Int) (s : Sp) (v : Value) (l : List Nat) (w : World) (hl : BL l) (hv : KL .u8 w v l) (h01 : -128 ≤ a0) (h02 : a0 ≤ 127) (hn : l.length ≤ 24) (q1 : -1048576 ≤ s.1) (q2 : s.1 ≤ 1048576) (q3 : -1048576 ≤ s.2) (q4 : s.2 ≤ 1048576) :
    Calls Try.prog 12 #[.int .i8 a0, v, .agg #[.int .i64 s.1, .int .i64 s.2]] w fun e w' => e = .returned (.bool true) ∧ Below w.heap.size w w' := by
  have hv' := hv
  obtain ⟨A, cap, rfl, _⟩ := hv'.form rfl
  have hb : ¬ (24 : Int) < (l.length : Int) := by omega
  have hss : SB s := by unfold SB; omega
  have hM := Lib.hid (fun w1 (hb : Below w.heap.size w w1) => made_any a0 _ l w1 (by omega) (by omega) hl (by omega) (hv.keep hb))
  have hset := madeL_right a0 l
  have hsb := madeL_sb a0 l (by omega) (by omega) (by omega)
  have hsl : (madeL a0 l).length ≤ 12 := by rw [madeL_len]; omega
  generalize madeL a0 l = SS at *
  have hMi := Lib.hid (fun v w hv => missing_any v SS s w hsb (by omega) hss hv)
  obtain ⟨e1, e2, e3⟩ := fills_end SS s hset hsb hss
  have hstep := Lib.hid (fun y hy => fills_step SS s y hset hy)
  have hmr := missS_right (s := s) hset
  have hms : SBs (missS SS s) := missL_sb _ _ _ hsb hss.1 hss.2.1 hss.2.2.1 hss.2.2.2
  have hml : (missS SS s).length ≤ SS.length + 1 := miss_len _ _ _
  have hfo := Lib.hid (fun M' (h : SBs M') => fold_ok M' SS hset hsb h)
  obtain ⟨hws, hwl⟩ := addS_sb hsb hss
  have hwr := addS_right (s := s) hset
  have hAd := Lib.hid (fun v w hv => add_any v SS s w hsb (by omega) hss hv)
  have hT1 := Lib.hid (fun v w hv => total_any v SS w hsb (by omega) hv)
  generalize missS SS s = M at *
  have hR := fun v w hv => right_any v M w hms (by omega) hv
  have hT2 := Lib.hid (fun v w hv => total_any v M w hms (by omega) hv)
  rw [(rightB_iff _).2 hmr] at hR
  generalize addS SS s = PW' at *
  have hMi2 := fun v w hv => missing_any v PW' s w hws (by omega) hss hv
  rw [e3] at hMi2
  have hT3 := fun v w hv => total_any v PW' w hws (by omega) hv
  rw [e2] at hT3
  have htb1 := totS_bd SS hsb SS.length (Nat.le_refl _)
  have htb2 := totS_bd M hms M.length (Nat.le_refl _)
  rw [List.take_of_length_le (Nat.le_refl _)] at htb1 htb2
  have hSa := fun v u w hv hu => same_any v u PW' PW' w (by omega) hv hu
  rw [show decide (PW' = PW') = true from by simp] at hSa
  have htt : -1000000000000000 ≤ totS SS ∧ totS SS ≤ 1000000000000000 ∧ -1000000000000000 ≤ totS M ∧ totS M ≤ 1000000000000000 := by omega
  obtain ⟨tt1, tt2, tt3, tt4⟩ := htt
  generalize totS SS = t1 at *
  generalize totS M = t2 at *
  obtain ⟨n, hnM⟩ : ∃ n, M.length = n := ⟨_, rfl⟩
  have hn2 : n ≤ 13 := by omega
  have hF := Lib.hid (fun k (hk : k ≤ n) => show SBs (addM SS M k) ∧ (addM SS M k).length ≤ 40 from by
    have := hfo.out (M.take k) (fun x hx => hms x (List.mem_of_mem_take hx))
    exact ⟨this.2.1, Nat.le_trans this.2.2.1 (by simp; omega)⟩)
  have hG := Lib.hid (fun k (hk : k < n) => addM_succ SS M k (by omega))
  have hE := Lib.hid (show addM SS M n = PW' from by unfold addM; rw [List.take_of_length_le (by omega)]; exact e1)
  have hY := Lib.hid (fun k (hk : k < n) => show SB (M.getD k (0, 0)) ∧ M.getD k (0, 0) ∈ M from ⟨hms.at k (by omega), by
    rw [List.getD_eq_getElem?_getD, List.getElem?_eq_getElem (by omega)]
    exact List.getElem_mem _⟩)
  replace hR := Lib.hid hR
  replace hMi2 := Lib.hid hMi2
  replace hT3 := Lib.hid hT3
  replace hSa := Lib.hid hSa
  replace hss := Lib.hid hss
  replace hsb := Lib.hid hsb
  have hb0 := belowA w (.cells #[.int .i64 s.1, .int .i64 s.2] (45 : Nat))
  have kk := C2.new w (.int .i64 s.1) (.int .i64 s.2) (45 : Nat)
  replace hnM := Lib.hid hnM
  clear e1 e2 e3 hset hmr hms hml hws hwl hwr htb1 htb2 hv hl
  go_enter Try.func12, Try.ntmps12
  go_wp2_with fail
  refine (awake04 _).mono ?_
  rintro e w1 ⟨rfl, hb1⟩
  have hB1 := hb0.trans (hb1.mono (by simp))
  have kk1 := kk.keep hb1
  obtain ⟨k0, k1⟩ := id kk1
  clear hb0 kk hb1
  go_wp2_with fail
  refine (hM.out _ hB1).mono ?_
  rintro e w2 ⟨v2, rfl, ho2, hb2⟩
  have hB2 := hB1.trans (hb2.mono hB1.size)
  have hp2 := ho2.pl
  have kk2 := kk1.keep hb2
  clear k0 k1 ho2 hb2 hB1 kk1
  obtain ⟨k0, k1⟩ := id kk2
  go_wp2_with fail
  refine (hMi.out _ _ hp2).mono ?_
  rintro e w3 ⟨um, rfl, ho3, hb3⟩
  have hB3 := hB2.trans (hb3.mono hB2.size)
  have hpm := ho3.pl
  have hp3 := hp2.keep hb3
  have kk3 := kk2.keep hb3
  clear k0 k1 ho3 hb3 hB2 kk2 hp2
  have hpmm := hpm
  obtain ⟨Am, cm, rfl, hCm⟩ := hpmm.form hnM.out
  obtain ⟨um, hum⟩ : ∃ um, um = Value.slice Am n cm := ⟨_, rfl⟩
  replace hCm := Lib.hid hCm
  go_wp2_with fail
  go_loopw [10, 11] (fun va x wr => ∃ (k : Nat) (PA : List Sp), k ≤ n ∧ x = .int .i64 k ∧ Hid (PA = addM SS M k) ∧ PL wr va PA ∧ Below w3.heap.size w3 wr ∧ Below w.heap.size w wr) (fun _ x _ => n + 1 - (intOf x).toNat)
  case atStart => exact ⟨0, SS, Nat.zero_le _, rfl, rfl, hp3, Below.refl _ _, hB3⟩
  case round =>
    obtain ⟨k, PA, hk, rfl, hPA, pa, hb3r, hB⟩ := hrel
    have p2 := hp3.keep hb3r
    have pm := hpm.keep hb3r
    have kkr := kk3.keep hb3r
    by_cases hlt : k < n
    · obtain ⟨gm, om, rfl, hcap, hg, c0, c1⟩ := hCm.out wr k hb3r hlt
      have hlt' : (k : Int) < (n : Int) := by omega
      obtain ⟨hys, hym⟩ := hY.out k hlt
      obtain ⟨hc1, hc2⟩ := hstep.out _ hym
      have hPn := Lib.hid (show addS PA (M.getD k (0, 0)) = addM SS M (k + 1) from by rw [hG.out k hlt, ← hPA.out])
      obtain ⟨hf1, hf2⟩ := hF.out k (by omega)
      rw [← hPA.out] at hf1 hf2
      generalize M.getD k (0, 0) = y at *
      have hC1 := fun w1 (h : PL w1 v2 SS) => covers_any v2 SS y w1 hsb.out (by omega) hys h
      rw [hc1] at hC1
      have hC2 := fun w1 => covers_any _ [s] y _ (fun x hx => by simp at hx; subst hx; exact hss.out) (by simp) hys (PL.one w1 s)
      rw [hc2] at hC2
      replace hC1 := Lib.hid hC1
      replace hC2 := Lib.hid hC2
      have hAy := Lib.hid (fun w1 v h => add_any v PA y w1 hf1 (by omega) hys h)
      obtain ⟨k0, k1⟩ := id kkr
      have hBd := hB.drew
      have hBd3 := hb3r.drew
      rw [← hum] at pm
      obtain ⟨va, hva⟩ : ∃ va, va = u10 := ⟨_, rfl⟩
      rw [← hva] at pa ⊢
      replace hum := Lib.hid hum
      replace hva := Lib.hid hva
      clear hc1 hc2
      · go_wp2_with fail
        refine wp_region_held_drew (S := (fun w' => w'.cell? ⟨gm, om + k * 2, none⟩ = some (.int .i64 y.1) ∧ w'.cell? ⟨gm, om + k * 2 + 1, none⟩ = some (.int .i64 y.2) ∧ w'.cell? ⟨w.heap.size, 0, none⟩ = some (.int .i64 s.1) ∧ w'.cell? ⟨w.heap.size, 1, none⟩ = some (.int .i64 s.2) ∧ PL w' v2 SS ∧ PL w' um M ∧ PL w' va PA ∧ Below w3.heap.size w3 w' ∧ Below w.heap.size w w')) (by kernel_rfl) ?_ (fun hHeld => ?_)
        · (try dsimp only)
          ((try go_split_ands); refine ⟨?_, ?_, ?_, ?_, ?_, ?_, ?_, ?_, ?_⟩ <;> first | assumption | exact hBd | exact hBd3 | (exact cellK (by assumption) hb) | (exact PL.keep (by assumption) hb) | (exact Below.trans (by assumption) (hb.mono (Below.size (by assumption)))))
        refine takeL 0 (v := ?_) rfl (by kernel_rfl) (by kernel_rfl) (by kernel_rfl) (fun _ _ _ h => h) (by rfl) (by assumption) ?_ ?_
        rotate_left
        · (intro w hSw; (try dsimp only at hSw); (try go_split_ands); go_simp <;> with_reducible rfl)
        try simp only [Act.put, List.setIfInBounds_toArray, List.set_cons_zero, List.set_cons_succ]
        refine takeL 1 (v := ?_) rfl (by kernel_rfl) (by kernel_rfl) (by kernel_rfl) (fun _ _ _ h => h) (by rfl) (by assumption) ?_ ?_
        rotate_left
        · (intro w hSw; (try dsimp only at hSw); (try go_split_ands); go_simp <;> with_reducible rfl)
        try simp only [Act.put, List.setIfInBounds_toArray, List.set_cons_zero, List.set_cons_succ]
        refine takeL 2 (v := ?_) rfl (by kernel_rfl) (by kernel_rfl) (by kernel_rfl) (fun _ _ _ h => h) (by rfl) (by assumption) ?_ ?_
        rotate_left
        · (intro w hSw; (try dsimp only at hSw); (try go_split_ands); go_simp <;> with_reducible rfl)
        try simp only [Act.put, List.setIfInBounds_toArray, List.set_cons_zero, List.set_cons_succ]
        refine takeL 3 (v := ?_) rfl (by kernel_rfl) (by kernel_rfl) (by kernel_rfl) (fun _ _ _ h => h) (by rfl) (by assumption) ?_ ?_
        rotate_left
        · (intro w hSw; (try dsimp only at hSw); (try go_split_ands); go_simp <;> with_reducible rfl)
        try simp only [Act.put, List.setIfInBounds_toArray, List.set_cons_zero, List.set_cons_succ]
        refine takeL 4 (v := ?_) rfl (by kernel_rfl) (by kernel_rfl) (by kernel_rfl) (fun _ _ _ h => h) (by rfl) (by assumption) ?_ ?_
        rotate_left
        · (intro w hSw; (try dsimp only at hSw); (try go_split_ands); go_simp <;> with_reducible rfl)
        try simp only [Act.put, List.setIfInBounds_toArray, List.set_cons_zero, List.set_cons_succ]
        refine oneL 5 rfl (by kernel_rfl) (fun K hK => ?_)
        go_simp
        (obtain ⟨_, _, _, _, hq, _, _, _, _⟩ := id hHeld; refine (hC1.out _ hq).mono ?_; rintro e w8 ⟨rfl, hb⟩)
        refine hK.out _ _ ?_ (fun hHeld2 => ?_)
        · (try dsimp only)
          ((try go_split_ands); refine ⟨?_, ?_, ?_, ?_, ?_, ?_, ?_, ?_, ?_⟩ <;> first | assumption | exact hBd | exact hBd3 | (exact cellK (by assumption) hb) | (exact PL.keep (by assumption) hb) | (exact Below.trans (by assumption) (hb.mono (Below.size (by assumption)))))
        clear hK K hHeld
        have hHeld := hHeld2
        clear hHeld2
        try simp only [Act.put, List.setIfInBounds_toArray, List.set_cons_zero, List.set_cons_succ]
        refine takeL 6 (v := ?_) rfl (by kernel_rfl) (by kernel_rfl) (by kernel_rfl) (fun _ _ _ h => h) (by rfl) (by assumption) ?_ ?_
        rotate_left
        · (intro w hSw; (try dsimp only at hSw); (try go_split_ands); go_simp <;> with_reducible rfl)
        try simp only [Act.put, List.setIfInBounds_toArray, List.set_cons_zero, List.set_cons_succ]
        refine takeL 7 (v := ?_) rfl (by kernel_rfl) (by kernel_rfl) (by kernel_rfl) (fun _ _ _ h => h) (by rfl) (by assumption) ?_ ?_
        rotate_left
        · (intro w hSw; (try dsimp only at hSw); (try go_split_ands); go_simp <;> with_reducible rfl)
        try simp only [Act.put, List.setIfInBounds_toArray, List.set_cons_zero, List.set_cons_succ]
        refine takeL 9 (v := ?_) rfl (by kernel_rfl) (by kernel_rfl) (by kernel_rfl) (fun _ _ _ h => h) (by rfl) (by assumption) ?_ ?_
        rotate_left
        · (intro w hSw; (try dsimp only at hSw); (try go_split_ands); go_simp <;> with_reducible rfl)
        try simp only [Act.put, List.setIfInBounds_toArray, List.set_cons_zero, List.set_cons_succ]
        refine takeL 10 (v := ?_) rfl (by kernel_rfl) (by kernel_rfl) (by kernel_rfl) (fun _ _ _ h => h) (by rfl) (by assumption) ?_ ?_
        rotate_left
        · (intro w hSw; (try dsimp only at hSw); (try go_split_ands); go_simp <;> with_reducible rfl)
        try simp only [Act.put, List.setIfInBounds_toArray, List.set_cons_zero, List.set_cons_succ]
        refine takeL 11 (v := ?_) rfl (by kernel_rfl) (by kernel_rfl) (by kernel_rfl) (fun _ _ _ h => h) (by rfl) (by assumption) ?_ ?_
        rotate_left
        · (intro w hSw; (try dsimp only at hSw); (try go_split_ands); go_simp <;> with_reducible rfl)
        try simp only [Act.put, List.setIfInBounds_toArray, List.set_cons_zero, List.set_cons_succ]
        refine takeL 12 (v := ?_) rfl (by kernel_rfl) (by kernel_rfl) (by kernel_rfl) (fun _ _ _ h => h) (by rfl) (by assumption) ?_ ?_
        rotate_left
        · (intro w hSw; (try dsimp only at hSw); (try go_split_ands); go_simp <;> with_reducible rfl)
        try simp only [Act.put, List.setIfInBounds_toArray, List.set_cons_zero, List.set_cons_succ]
        refine oneL 8 rfl (by kernel_rfl) (fun K hK => ?_)
        go_simp
        (have hb := belowA ‹World› (.cells #[.int .i64 s.1, .int .i64 s.2] (45 : Nat)))
        refine hK.out _ _ ?_ (fun hHeld2 => ?_)
        · (try dsimp only)
          ((try go_split_ands); refine ⟨?_, ?_, ?_, ?_, ?_, ?_, ?_, ?_, ?_⟩ <;> first | assumption | exact hBd | exact hBd3 | (exact cellK (by assumption) hb) | (exact PL.keep (by assumption) hb) | (exact Below.trans (by assumption) (hb.mono (Below.size (by assumption)))))
        clear hK K hHeld
        have hHeld := hHeld2
        clear hHeld2
        try simp only [Act.put, List.setIfInBounds_toArray, List.set_cons_zero, List.set_cons_succ]
        refine oneL 13 rfl (by kernel_rfl) (fun K hK => ?_)
        go_simp
        (refine (hC2.out w8).mono ?_; rintro e w9 ⟨rfl, hb⟩)
        refine hK.out _ _ ?_ (fun hHeld2 => ?_)
        · (try dsimp only)
          ((try go_split_ands); refine ⟨?_, ?_, ?_, ?_, ?_, ?_, ?_, ?_, ?_⟩ <;> first | assumption | exact hBd | exact hBd3 | (exact cellK (by assumption) hb) | (exact PL.keep (by assumption) hb) | (exact Below.trans (by assumption) (hb.mono (Below.size (by assumption)))))
        clear hK K hHeld
        have hHeld := hHeld2
        clear hHeld2
        try simp only [Act.put, List.setIfInBounds_toArray, List.set_cons_zero, List.set_cons_succ]
        refine takeL 14 (v := ?_) rfl (by kernel_rfl) (by kernel_rfl) (by kernel_rfl) (fun _ _ _ h => h) (by rfl) (by assumption) ?_ ?_
        rotate_left
        · (intro w hSw; (try dsimp only at hSw); (try go_split_ands); go_simp <;> with_reducible rfl)
        try simp only [Act.put, List.setIfInBounds_toArray, List.set_cons_zero, List.set_cons_succ]
        refine takeL 15 (v := ?_) rfl (by kernel_rfl) (by kernel_rfl) (by kernel_rfl) (fun _ _ _ h => h) (by rfl) (by assumption) ?_ ?_
        rotate_left
        · (intro w hSw; (try dsimp only at hSw); (try go_split_ands); go_simp <;> with_reducible rfl)
        try simp only [Act.put, List.setIfInBounds_toArray, List.set_cons_zero, List.set_cons_succ]
        refine wpAnyH_done (by kernel_rfl) ?_ _
        obtain ⟨d0, d1, _, _, p2', pm', pa', hb3', hB'⟩ := hHeld
        go_wp2_with fail
        refine (hAy.out _ _ pa').mono ?_
        rintro e w10 ⟨v10, rfl, ho10, hb10⟩
        have hbb : Below w3.heap.size w3 w10 := hb3'.trans (hb10.mono hb3'.size)
        have hB10 := hB'.trans (hb10.mono hB'.size)
        have pa10 := ho10.pl
        clear ho10 hb10 hB' pa' pm' p2' d0 d1
        go_wp2_with fail
        go_roundw
        case rel => exact ⟨k + 1, _, by omega, by go_num, hPn, pa10, hbb, hB10⟩
        case measure => simp [intOf]; omega
    · obtain rfl : k = n := by omega
      have hPW : PA = PW' := by rw [hPA.out, hE.out]
      subst hPW
      obtain ⟨k0, k1⟩ := id kkr
      clear hb3r
      go_wp2_with fail
      refine (hAd.out _ _ p2).mono ?_
      rintro e w4 ⟨v4, rfl, ho4, hb4⟩
      have hB4 := hB.trans (hb4.mono hB.size)
      have pw := ho4.pl
      replace p2 := p2.keep hb4
      replace pm := pm.keep hb4
      replace pa := pa.keep hb4
      replace kkr := kkr.keep hb4
      clear ho4 hb4 hB k0 k1
      go_wp2_with fail
      refine (hR.out _ _ pm).mono ?_
      rintro e w5 ⟨rfl, hb5⟩
      have hB5 := hB4.trans (hb5.mono hB4.size)
      replace pw := pw.keep hb5
      replace p2 := p2.keep hb5
      replace pm := pm.keep hb5
      replace pa := pa.keep hb5
      replace kkr := kkr.keep hb5
      clear hb5 hB4
      go_wp2_with fail
      refine (hSa.out _ _ _ pa pw).mono ?_
      rintro e w6 ⟨rfl, hb6⟩
      have hB6 := hB5.trans (hb6.mono hB5.size)
      replace pw := pw.keep hb6
      replace p2 := p2.keep hb6
      replace pm := pm.keep hb6
      replace kkr := kkr.keep hb6
      clear hb6 hB5 pa
      go_wp2_with fail
      refine (hT3.out _ _ pw).mono ?_
      rintro e w7 ⟨rfl, hb7⟩
      have hB7 := hB6.trans (hb7.mono hB6.size)
      replace pw := pw.keep hb7
      replace p2 := p2.keep hb7
      replace pm := pm.keep hb7
      replace kkr := kkr.keep hb7
      clear hb7 hB6
      go_wp2_with fail
      refine (hT1.out _ _ p2).mono ?_
      rintro e w8 ⟨rfl, hb8⟩
      have hB8 := hB7.trans (hb8.mono hB7.size)
      replace pw := pw.keep hb8
      replace pm := pm.keep hb8
      replace kkr := kkr.keep hb8
      clear hb8 hB7 p2
      go_wp2_with fail
      refine (hT2.out _ _ pm).mono ?_
      rintro e w9 ⟨rfl, hb9⟩
      have hB9 := hB8.trans (hb9.mono hB8.size)
      replace pw := pw.keep hb9
      replace kkr := kkr.keep hb9
      obtain ⟨k0, k1⟩ := id kkr
      have f1 : ((t1 + t2 : Int) == t1 + t2) = true := by simp
      clear hb9 hB8 pm
      go_wp2_with fail
      refine (hMi2.out _ _ pw).mono ?_
      rintro e w10 ⟨v10, rfl, ho10, hb10⟩
      have hB10 := hB9.trans (hb10.mono hB9.size)
      obtain ⟨A10, c10, rfl, _⟩ := ho10.pl.form (n := 0) rfl
      clear hb10 hB9 ho10 pw k0 k1
      go_wp2_with fail
      go_ret
      exact ⟨rfl, hB10⟩
theorem spanFills (a0 : Int) (s1 s2 : Int) (v : Value) (l : List Nat) (w : World) (hl : BL l) (hv : KL .u8 w v l) (h01 : -128 ≤ a0) (h02 : a0 ≤ 127) :
    Calls Try.prog 12 #[.int .i8 a0, v, .agg #[.int .i64 s1, .int .i64 s2]] w fun e w' => e = .returned (.bool true) ∧ Below w.heap.size w w' := by
  by_cases hn : 24 < l.length
  · exact spanFills_big a0 (s1, s2) v l w hv hn
  have hn' : l.length ≤ 24 := by omega
  by_cases q1 : s1 < -1048576
  · exact spanFills_q1 a0 (s1, s2) v l w hv hn' q1
  by_cases q2 : 1048576 < s1
  · exact spanFills_q2 a0 (s1, s2) v l w hv hn' (by simp only []; omega) q2
  by_cases q3 : s2 < -1048576
  · exact spanFills_q3 a0 (s1, s2) v l w hv hn' (by simp only []; omega) (by simp only []; omega) q3
  by_cases q4 : 1048576 < s2
  · exact spanFills_q4 a0 (s1, s2) v l w hv hn' (by simp only []; omega) (by simp only []; omega) (by simp only []; omega) q4
  exact spanFills_in a0 (s1, s2) v l w hl hv h01 h02 hn' (by simp only []; omega) (by simp only []; omega) (by simp only []; omega) (by simp only []; omega)
end Go.Proofs.Ythklgmpphfdfoaa
