/-
  Package oid: the document's Parse, Text.
-/
import Derived.Test.YtdblioggncnapaaDoorOd13
import Derived.Test.YtdblioggncnapaaDoorOd11
set_option linter.unusedVariables false
set_option linter.unusedSimpArgs false
set_option maxRecDepth 100000
namespace Go.Proofs.YtdblioggncnapaaDoor
open Go.RowKit
def eS (p : List UInt8) : List Value := [.string ⟨p.toArray⟩]
theorem eS_len (p : List UInt8) : (eS p).length = 1 := rfl
theorem SLT : ElT Tryd.prog 48 9 1 16 eS where
  und := Tryd.underlying48
  info := by
    have h : (Tryd.prog.info? 9).map (fun i => (i.zero, i.size, i.bytes)) = some (some (.string ⟨#[]⟩), 1, 16) := by kernel_rfl
    obtain ⟨i0, h1, h2, h3, h4⟩ := info_parts h
    exact ⟨i0, _, h1, h2, h3, h4, rfl⟩
  len := eS_len
  one := fun x u hu => by simp only [eS, List.mem_singleton] at hu; subst hu; rfl
  pos := by decide
  small := by decide
theorem eS_new (w : World) : EL 1 eS (w.alloc (.cells #[.string ⟨#[]⟩] (9 : Nat))) (.slice (some ⟨w.heap.size, 0, none⟩) 1 1) [[]] :=
  OwnE.el eS_len (OwnE.lit (e := 9) (en := eS) eS_len w [[]] #[.string ⟨#[]⟩] rfl (by decide))
theorem push_dot {l : List UInt8} {k : Nat} (hk : k < l.length) {c : Nat} (hc : (l.getD k 0).toNat = c) (h : c = 46) : splitD (l.take (k + 1)) = splitD (l.take k) ++ [[]] := by
  rw [take_snoc8 hk, splitD_snoc]
  unfold pushD
  rw [if_pos]
  exact UInt8.toNat_inj.1 (hc.trans h)
theorem push_other {l : List UInt8} {k : Nat} (hk : k < l.length) {c : Nat} (hc : (l.getD k 0).toNat = c) (h : ¬ c = 46) {q : Nat} (hq : (splitD (l.take k)).length = q + 1) {p : List UInt8} (hp : (splitD (l.take k)).getD q default = p) :
    splitD (l.take (k + 1)) = (splitD (l.take k)).set q (p ++ [l.getD k 0]) := by
  rw [take_snoc8 hk, splitD_snoc]
  unfold pushD
  rw [if_neg (fun e => h (by rw [← hc, e]; rfl)), hq, Nat.add_sub_cancel]
  rw [← hp]; rfl
theorem splitD_len (l : List UInt8) : (splitD l).length ≤ l.length + 1 := by
  induction l with
  | nil => simp [splitD]
  | cons b l ih =>
    unfold splitD
    split
    · simpa using ih
    · split
      · simp
      · rename_i p r e; rw [e] at ih; simp only [List.length_cons] at ih ⊢; omega
theorem splitD_pos (l : List UInt8) : ∃ q, (splitD l).length = q + 1 := by
  cases h : splitD l with
  | nil => exact absurd h (splitD_ne l)
  | cons p r => exact ⟨r.length, rfl⟩
theorem snoc_ba (p : List UInt8) (s : ByteArray) (k : Nat) (hk : k < s.size) {b : UInt8} (hb : s.data.toList.getD k 0 = b) : (⟨p.toArray⟩ : ByteArray) ++ s.extract k (k + 1) = ⟨(p ++ [b]).toArray⟩ := by
  subst hb
  have hk' : k < s.data.toList.length := by rw [Array.length_toList]; exact hk
  apply ByteArray.ext
  apply Array.ext'
  simp only [ByteArray.data_append, ByteArray.data_extract, Array.toList_append, Array.toList_extract]
  show p ++ (s.data.toList.drop k).take (k + 1 - k) = _
  rw [show k + 1 - k = 1 by omega, List.drop_eq_getElem_cons hk', List.take_succ_cons, List.take_zero, List.getD_eq_getElem?_getD, List.getElem?_eq_getElem hk']
  rfl
theorem numC_cut (l : List UInt8) {m M : Nat} (h : m ≤ M) : numC l m = if (numC l M).2 && decide ((numC l M).1 ≤ m) then numC l M else (0, false) := by
  unfold numC
  cases numO l with
  | none => rfl
  | some v =>
    simp only []
    by_cases hv : v ≤ m
    · have hv2 : v ≤ M := by omega
      simp [hv, hv2]
    · by_cases hv2 : v ≤ M <;> simp [hv, hv2]
/-- the last of the list is put anew -/
theorem eS_set {w : World} {base g n cap q : Nat} {l : List (List UInt8)} {x' : List UInt8} (h : OwnE 9 1 eS w base (.slice (some ⟨g, 0, none⟩) n cap) l) (hn : l.length = n) (hi : q < n) :
    OwnE 9 1 eS (w.setCell ⟨g, q, none⟩ (.string ⟨x'.toArray⟩)) base (.slice (some ⟨g, 0, none⟩) n cap) (l.set q x') := by
  have := OwnE.set (e := 9) (en := eS) eS_len h hn hi (j := 0) (by decide) (x' := x') (u := .string ⟨x'.toArray⟩) rfl
  simpa using this
theorem eS_cell {w : World} {base g n cap q : Nat} {l : List (List UInt8)} (h : OwnE 9 1 eS w base (.slice (some ⟨g, 0, none⟩) n cap) l) (hn : l.length = n) (hi : q < n) :
    w.cell? ⟨g, q, none⟩ = some (.string ⟨(l.getD q default).toArray⟩) ∧ w.frozen? ⟨g, q, none⟩ = false := by
  have := OwnE.cell (e := 9) (en := eS) eS_len h hn hi (j := 0) (by decide)
  simpa [eS] using this
set_option maxRecDepth 10000 in
set_option maxHeartbeats 2000000 in
theorem refParse_any (s : ByteArray) (w : World) (hs : s.size < 100000) :
    Calls Tryd.prog 17 #[.string s] w fun e w' => e = .returned (.tuple #[pV (parseO s.data.toList), .bool (parseO s.data.toList).isSome]) ∧ Below w.heap.size w w' := by
  have hby := Lib.hid (fun k h (c : Nat) hc => byte_at2 s k h (c := c) hc)
  have hsnoc := Lib.hid (fun (p : List UInt8) k hk (b : UInt8) hb => snoc_ba p s k hk (b := b) hb)
  obtain ⟨l, hl⟩ : ∃ l, s.data.toList = l := ⟨_, rfl⟩
  have hsz : l.length = s.size := by rw [← hl, Lib.size_eq]
  rw [hl] at hby hsnoc ⊢
  clear hl
  replace hsz := Lib.hid hsz
  have hR := C3.new w (.int .i64 0) (.int .i64 0) (.int .u64 0) 36
  have hF := F3.new w (.int .i64 0) (.int .i64 0) (.int .u64 0) 36
  have hB0 := below1 w (.cells #[.int .i64 0, .int .i64 0, .int .u64 0] 36)
  go_enter Tryd.func17, Tryd.ntmps17
  go_wp2_with fail
  have hOi : OwnE 9 1 eS ((w.alloc (.cells #[.int .i64 0, .int .i64 0, .int .u64 0] 36)).alloc (.cells #[.string ⟨#[]⟩] (9 : Nat))) (w.heap.size + 1) (.slice (some ⟨w.heap.size + 1, 0, none⟩) 1 1) (splitD (l.take 0)) := by
    have h := OwnE.lit (e := 9) (en := eS) eS_len (w.alloc (.cells #[.int .i64 0, .int .i64 0, .int .u64 0] 36)) [[]] #[.string ⟨#[]⟩] rfl (by decide)
    simp only [World.size_alloc] at h
    exact h
  have hBi : Below (w.heap.size + 1) (w.alloc (.cells #[.int .i64 0, .int .i64 0, .int .u64 0] 36)) ((w.alloc (.cells #[.int .i64 0, .int .i64 0, .int .u64 0] 36)).alloc (.cells #[.string ⟨#[]⟩] (9 : Nat))) := by
    have h := below1 (w.alloc (.cells #[.int .i64 0, .int .i64 0, .int .u64 0] 36)) (.cells #[.string ⟨#[]⟩] (9 : Nat))
    simpa only [World.size_alloc] using h
  go_loopw [4, 5] (fun v i wr => ∃ (k : Nat) (V : Value) (J : List (List UInt8)), k ≤ s.size ∧ i = .int .i64 k ∧ v = V ∧ Hid (splitD (l.take k) = J) ∧ OwnE 9 1 eS wr (w.heap.size + 1) V J ∧ Below (w.heap.size + 1) (w.alloc (.cells #[.int .i64 0, .int .i64 0, .int .u64 0] 36)) wr) (fun _ i _ => s.size + 1 - (intOf i).toNat)
  case atStart => exact ⟨0, _, splitD (l.take 0), Nat.zero_le _, rfl, rfl, rfl, hOi, hBi⟩
  case round =>
    obtain ⟨k, V, J, hk, rfl, rfl, hJ, hO, hB⟩ := hrel
    obtain ⟨q, hq⟩ := splitD_pos (l.take k)
    rw [hJ.out] at hq
    have hq9 : q ≤ 100000 := by
      have h1 := splitD_len (l.take k)
      rw [hJ.out, hq, List.length_take] at h1
      have := hsz.out
      omega
    by_cases hlt : k < s.size
    · have hkl : k < l.length := by rw [hsz.out]; exact hlt
      obtain ⟨c, hc⟩ : ∃ c : Nat, (s[k]'hlt).toNat = c := ⟨_, rfl⟩
      have hcl := Lib.hid (hby.out k hlt c hc)
      by_cases h46 : c = 46
      · have hsn := Lib.hid (push_dot hkl hcl.out h46)
        rw [hJ.out] at hsn
        subst h46
        obtain ⟨v', w4, hrun, ho4, hg4, _, _⟩ := appE SLT (hO.alloc (.cells #[.string ⟨#[]⟩] (9 : Nat))) (eS_new wr) (by have h1 := hB.size; rw [World.size_alloc] at h1 ⊢; omega) (by rw [hq]; omega) (by decide)
        have hB4 : Below (w.heap.size + 1) (w.alloc (.cells #[.int .i64 0, .int .i64 0, .int .u64 0] 36)) w4 := (hB.alloc (by have := hB.size; simpa using this) _).trans (grown_below hg4 (by have h1 := hB.size; rw [World.size_alloc] at h1 ⊢; omega) (fun k hk => (hO.lt k hk).1))
        replace hq := Lib.hid hq
        go_wp2_with (at_builtin; refine wpList_append_run rfl _ _ 48 rfl _ _ _ rfl rfl hrun ?_)
        go_roundw
        case rel => exact ⟨k + 1, _, J ++ [[]], by omega, by go_num, rfl, hsn.out, ho4, hB4⟩
        case measure => first | (simp [intOf]; done) | (simp [intOf]; omega)
      · obtain ⟨p, hp⟩ : ∃ p, J.getD q default = p := ⟨_, rfl⟩
        obtain ⟨b, hb⟩ : ∃ b, l.getD k 0 = b := ⟨_, rfl⟩
        have hsn := Lib.hid (push_other (p := p) hkl hcl.out h46 (by rw [hJ.out]; exact hq) (by rw [hJ.out]; exact hp))
        rw [hJ.out, hb] at hsn
        have hcat := hsnoc.out p k hlt b hb
        obtain ⟨n, hn⟩ : ∃ n, q + 1 = n := ⟨_, rfl⟩
        rw [hn] at hq
        obtain ⟨g, cap, rfl, hgb, hgl, hcap⟩ := hO.form (by omega)
        rw [hq] at hcap hO ⊢
        have hJn := Lib.hid hq
        have hcell := eS_cell hO hq (q := q) (by omega)
        rw [hp] at hcell
        obtain ⟨hc0, hf0⟩ := hcell
        have hqn : (n : Int) - 1 = (q : Int) := by omega
        have hlt' : (q : Int) < (n : Int) := by omega
        have ew1 : IntKind.i64.wrap (q : Int) = (q : Int) := by rw [IntKind.wrap_i64]; omega
        have ew2 : IntKind.i64.wrap ((k : Int) + 1) = (k : Int) + 1 := by rw [IntKind.wrap_i64]; omega
        have hqn' : q < n := by omega
        have s1 : 0 ≤ (k : Int) + 1 := by omega
        have s2 : (k : Int) + 1 ≤ (s.size : Int) := by omega
        have s3 : (k : Int) ≤ (k : Int) + 1 := by omega
        have h46' : ¬ (c : Int) = 46 := by omega
        have hpl : ¬ 9223372036854775807 < p.length + (min (k + 1) s.size - k) := by
          have hm : p ∈ splitD (l.take k) := by
            rw [hJ.out, ← hp, List.getD_eq_getElem?_getD, List.getElem?_eq_getElem (by omega)]
            exact List.getElem_mem _
          have h1 := split_len (l.take k) p hm
          rw [List.length_take] at h1
          omega
        clear hp hb hq hkl hcl hn h46
        replace hJn := hJn.out
        replace hJn := Lib.hid hJn
        go_wp2_with fail
        refine wp_region_tail (S := (fun w' => w'.cell? ⟨g, q, none⟩ = some (.string ⟨p.toArray⟩))) (n := 17) (by kernel_rfl) ?_ (fun hHeld hInv => ?_) (by decide)
        · (try dsimp only)
          (first | exact hc0 | exact hHeld)
        refine takeS 0 (v := ?_) (tailAt (by kernel_rfl)) hInv (by decide) rfl (by kernel_rfl) (by kernel_rfl) (by kernel_rfl) (fun _ _ _ h => h) (by rfl) (by assumption) ?_ (fun hInv2 => ?_)
        rotate_left
        · (intro w hSw; (try dsimp only at hSw); (try go_split_ands); go_simp <;> with_reducible rfl)
        clear hInv
        have hInv := hInv2
        clear hInv2
        try simp only [Act.put, List.setIfInBounds_toArray, List.set_cons_zero, List.set_cons_succ] at hInv ⊢
        refine takeS 1 (v := ?_) (tailAt (by kernel_rfl)) hInv (by decide) rfl (by kernel_rfl) (by kernel_rfl) (by kernel_rfl) (fun _ _ _ h => h) (by rfl) (by assumption) ?_ (fun hInv2 => ?_)
        rotate_left
        · (intro w hSw; (try dsimp only at hSw); (try go_split_ands); go_simp <;> with_reducible rfl)
        clear hInv
        have hInv := hInv2
        clear hInv2
        try simp only [Act.put, List.setIfInBounds_toArray, List.set_cons_zero, List.set_cons_succ] at hInv ⊢
        refine takeS 2 (v := ?_) (tailAt (by kernel_rfl)) hInv (by decide) rfl (by kernel_rfl) (by kernel_rfl) (by kernel_rfl) (fun _ _ _ h => h) (by rfl) (by assumption) ?_ (fun hInv2 => ?_)
        rotate_left
        · (intro w hSw; (try dsimp only at hSw); (try go_split_ands); go_simp <;> with_reducible rfl)
        clear hInv
        have hInv := hInv2
        clear hInv2
        try simp only [Act.put, List.setIfInBounds_toArray, List.set_cons_zero, List.set_cons_succ] at hInv ⊢
        refine takeS 3 (v := ?_) (tailAt (by kernel_rfl)) hInv (by decide) rfl (by kernel_rfl) (by kernel_rfl) (by kernel_rfl) (fun _ _ _ h => h) (by rfl) (by assumption) ?_ (fun hInv2 => ?_)
        rotate_left
        · (intro w hSw; (try dsimp only at hSw); (try go_split_ands); go_simp <;> with_reducible rfl)
        clear hInv
        have hInv := hInv2
        clear hInv2
        try simp only [Act.put, List.setIfInBounds_toArray, List.set_cons_zero, List.set_cons_succ] at hInv ⊢
        refine takeS 4 (v := ?_) (tailAt (by kernel_rfl)) hInv (by decide) rfl (by kernel_rfl) (by kernel_rfl) (by kernel_rfl) (fun _ _ _ h => h) (by rfl) (by assumption) ?_ (fun hInv2 => ?_)
        rotate_left
        · (intro w hSw; (try dsimp only at hSw); (try go_split_ands); go_simp <;> with_reducible rfl)
        clear hInv
        have hInv := hInv2
        clear hInv2
        try simp only [Act.put, List.setIfInBounds_toArray, List.set_cons_zero, List.set_cons_succ] at hInv ⊢
        refine takeS 5 (v := ?_) (tailAt (by kernel_rfl)) hInv (by decide) rfl (by kernel_rfl) (by kernel_rfl) (by kernel_rfl) (fun _ _ _ h => h) (by rfl) (by assumption) ?_ (fun hInv2 => ?_)
        rotate_left
        · (intro w hSw; (try dsimp only at hSw); (try go_split_ands); go_simp <;> with_reducible rfl)
        clear hInv
        have hInv := hInv2
        clear hInv2
        try simp only [Act.put, List.setIfInBounds_toArray, List.set_cons_zero, List.set_cons_succ] at hInv ⊢
        refine takeS 6 (v := ?_) (tailAt (by kernel_rfl)) hInv (by decide) rfl (by kernel_rfl) (by kernel_rfl) (by kernel_rfl) (fun _ _ _ h => h) (by rfl) (by assumption) ?_ (fun hInv2 => ?_)
        rotate_left
        · (intro w hSw; (try dsimp only at hSw); (try go_split_ands); go_simp <;> with_reducible rfl)
        clear hInv
        have hInv := hInv2
        clear hInv2
        try simp only [Act.put, List.setIfInBounds_toArray, List.set_cons_zero, List.set_cons_succ] at hInv ⊢
        refine takeS 7 (v := ?_) (tailAt (by kernel_rfl)) hInv (by decide) rfl (by kernel_rfl) (by kernel_rfl) (by kernel_rfl) (fun _ _ _ h => h) (by rfl) (by assumption) ?_ (fun hInv2 => ?_)
        rotate_left
        · (intro w hSw; (try dsimp only at hSw); (try go_split_ands); go_simp <;> with_reducible rfl)
        clear hInv
        have hInv := hInv2
        clear hInv2
        try simp only [Act.put, List.setIfInBounds_toArray, List.set_cons_zero, List.set_cons_succ] at hInv ⊢
        refine takeS 8 (v := ?_) (tailAt (by kernel_rfl)) hInv (by decide) rfl (by kernel_rfl) (by kernel_rfl) (by kernel_rfl) (fun _ _ _ h => h) (by rfl) (by assumption) ?_ (fun hInv2 => ?_)
        rotate_left
        · (intro w hSw; (try dsimp only at hSw); (try go_split_ands); go_simp <;> with_reducible rfl)
        clear hInv
        have hInv := hInv2
        clear hInv2
        try simp only [Act.put, List.setIfInBounds_toArray, List.set_cons_zero, List.set_cons_succ] at hInv ⊢
        refine takeS 9 (v := ?_) (tailAt (by kernel_rfl)) hInv (by decide) rfl (by kernel_rfl) (by kernel_rfl) (by kernel_rfl) (fun _ _ _ h => h) (by rfl) (by assumption) ?_ (fun hInv2 => ?_)
        rotate_left
        · (intro w hSw; (try dsimp only at hSw); (try go_split_ands); go_simp <;> with_reducible rfl)
        clear hInv
        have hInv := hInv2
        clear hInv2
        try simp only [Act.put, List.setIfInBounds_toArray, List.set_cons_zero, List.set_cons_succ] at hInv ⊢
        refine takeS 10 (v := ?_) (tailAt (by kernel_rfl)) hInv (by decide) rfl (by kernel_rfl) (by kernel_rfl) (by kernel_rfl) (fun _ _ _ h => h) (by rfl) (by assumption) ?_ (fun hInv2 => ?_)
        rotate_left
        · (intro w hSw; (try dsimp only at hSw); (try go_split_ands); go_simp <;> with_reducible rfl)
        clear hInv
        have hInv := hInv2
        clear hInv2
        try simp only [Act.put, List.setIfInBounds_toArray, List.set_cons_zero, List.set_cons_succ] at hInv ⊢
        refine takeS 11 (v := ?_) (tailAt (by kernel_rfl)) hInv (by decide) rfl (by kernel_rfl) (by kernel_rfl) (by kernel_rfl) (fun _ _ _ h => h) (by rfl) (by assumption) ?_ (fun hInv2 => ?_)
        rotate_left
        · (intro w hSw; (try dsimp only at hSw); (try go_split_ands); go_simp <;> with_reducible rfl)
        clear hInv
        have hInv := hInv2
        clear hInv2
        try simp only [Act.put, List.setIfInBounds_toArray, List.set_cons_zero, List.set_cons_succ] at hInv ⊢
        refine takeS 12 (v := ?_) (tailAt (by kernel_rfl)) hInv (by decide) rfl (by kernel_rfl) (by kernel_rfl) (by kernel_rfl) (fun _ _ _ h => h) (by rfl) (by assumption) ?_ (fun hInv2 => ?_)
        rotate_left
        · (intro w hSw; (try dsimp only at hSw); (try go_split_ands); go_simp <;> with_reducible rfl)
        clear hInv
        have hInv := hInv2
        clear hInv2
        try simp only [Act.put, List.setIfInBounds_toArray, List.set_cons_zero, List.set_cons_succ] at hInv ⊢
        refine takeS 13 (v := ?_) (tailAt (by kernel_rfl)) hInv (by decide) rfl (by kernel_rfl) (by kernel_rfl) (by kernel_rfl) (fun _ _ _ h => h) (by rfl) (by assumption) ?_ (fun hInv2 => ?_)
        rotate_left
        · (intro w hSw; (try dsimp only at hSw); (try go_split_ands); go_simp <;> with_reducible rfl)
        clear hInv
        have hInv := hInv2
        clear hInv2
        try simp only [Act.put, List.setIfInBounds_toArray, List.set_cons_zero, List.set_cons_succ] at hInv ⊢
        refine takeS 14 (v := ?_) (tailAt (by kernel_rfl)) hInv (by decide) rfl (by kernel_rfl) (by kernel_rfl) (by kernel_rfl) (fun _ _ _ h => h) (by rfl) (by assumption) ?_ (fun hInv2 => ?_)
        rotate_left
        · (intro w hSw; (try dsimp only at hSw); (try go_split_ands); go_simp <;> with_reducible rfl)
        clear hInv
        have hInv := hInv2
        clear hInv2
        try simp only [Act.put, List.setIfInBounds_toArray, List.set_cons_zero, List.set_cons_succ] at hInv ⊢
        refine takeS 15 (v := ?_) (tailAt (by kernel_rfl)) hInv (by decide) rfl (by kernel_rfl) (by kernel_rfl) (by kernel_rfl) (fun _ _ _ h => h) (by rfl) (by assumption) ?_ (fun hInv2 => ?_)
        rotate_left
        · (intro w hSw; (try dsimp only at hSw); (try go_split_ands); go_simp <;> with_reducible rfl)
        clear hInv
        have hInv := hInv2
        clear hInv2
        try simp only [Act.put, List.setIfInBounds_toArray, List.set_cons_zero, List.set_cons_succ] at hInv ⊢
        refine takeS 16 (v := ?_) (tailAt (by kernel_rfl)) hInv (by decide) rfl (by kernel_rfl) (by kernel_rfl) (by kernel_rfl) (fun _ _ _ h => h) (by rfl) (by assumption) ?_ (fun hInv2 => ?_)
        rotate_left
        · (intro w hSw; (try dsimp only at hSw); (try go_split_ands); go_simp <;> with_reducible rfl)
        clear hInv
        have hInv := hInv2
        clear hInv2
        try simp only [Act.put, List.setIfInBounds_toArray, List.set_cons_zero, List.set_cons_succ] at hInv ⊢
        refine lastS 17 rfl (by decide) (by kernel_rfl) (fun K hK => ?_)
        go_simp
        refine hK.out _ _ ?_
        clear hK K
        refine wpAnyS_done (by kernel_rfl) ?_ _
        obtain ⟨W9, hW9⟩ : ∃ W9, W9 = (wr.setCell ⟨g, q, none⟩ (.string ⟨(p ++ [b]).toArray⟩)).drew := ⟨_, rfl⟩
        have hO9 : OwnE 9 1 eS W9 (w.heap.size + 1) (.slice (some ⟨g, 0, none⟩) n cap) (J.set q (p ++ [b])) := by rw [hW9]; exact OwnE.drew (eS_set hO hJn.out (by omega))
        have hB9 : Below (w.heap.size + 1) (w.alloc (.cells #[.int .i64 0, .int .i64 0, .int .u64 0] 36)) W9 := by rw [hW9]; exact (hB.setCell (by simpa using hgb) _).drew
        try rw [← hW9]
        clear hW9 hHeld hInv hc0 hf0
        (try simp only [Exit.inBlock, Exit.then])
        go_wp2_with fail
        go_roundw
        case rel => exact ⟨k + 1, _, J.set q (p ++ [b]), by omega, by go_num, rfl, hsn.out, hO9, hB9⟩
        case measure => first | (simp [intOf]; done) | (simp [intOf]; omega)
    · obtain rfl : k = s.size := by omega
      have hJt : splitD l = J := by rw [← hJ.out, ← hsz.out, List.take_length]
      have hBz : Below (w.alloc (.cells #[.int .i64 0, .int .i64 0, .int .u64 0] 36)).heap.size (w.alloc (.cells #[.int .i64 0, .int .i64 0, .int .u64 0] 36)) wr := by rw [World.size_alloc]; exact hB
      replace hR := hR.keep hBz
      replace hF := hF.keep (by simp) hBz
      replace hB := hB0.trans (hBz.mono hB0.size)
      clear hB0 hBz hJ hOi hBi hby hsnoc hq hq9
      by_cases h3 : J.length = 3
      · have hlen := split_len l
        obtain ⟨p, q, r, rfl⟩ := three_of h3
        have hP := parse_three hJt
        rw [hJt] at hlen
        have hsz' := hsz.out
        have hp : p.length < 4294967281 := by have := hlen p (by simp); omega
        have hq : q.length < 4294967281 := by have := hlen q (by simp); omega
        have hr : r.length < 4294967281 := by have := hlen r (by simp); omega
        have hN1 := Lib.hid (fun w => refNumber_any ⟨p.toArray⟩ w hp)
        have hN2 := Lib.hid (fun w => refNumber_any ⟨q.toArray⟩ w hq)
        have hN3 := Lib.hid (fun w => refNumber_any ⟨r.toArray⟩ w hr)
        simp only [List.toList_toArray] at hN1 hN2 hN3
        rw [numC_cut p (show 2147483647 ≤ 18446744073709551615 by omega), numC_cut q (show 2147483647 ≤ 18446744073709551615 by omega)] at hP
        have l1 := numC_le p 18446744073709551615
        have l2 := numC_le q 18446744073709551615
        have l3 := numC_le r 18446744073709551615
        generalize numC p 18446744073709551615 = x1 at *
        generalize numC q 18446744073709551615 = x2 at *
        generalize numC r 18446744073709551615 = x3 at *
        obtain ⟨a, k1⟩ := x1
        obtain ⟨b, k2⟩ := x2
        obtain ⟨c, k3⟩ := x3
        simp only at l1 l2 l3 hP hN1 hN2 hN3
        replace hP := Lib.hid hP
        obtain ⟨g, cap, rfl, hgb, hgl, hcap⟩ := hO.form (by simp)
        have hO3 := hO
        rw [h3] at hO
        have c0 := (eS_cell hO h3 (q := 0) (by omega)).1
        have c1 := (eS_cell hO h3 (q := 1) (by omega)).1
        have c2 := (eS_cell hO h3 (q := 2) (by omega)).1
        simp only [List.getD_cons_zero, List.getD_cons_succ] at c0 c1 c2
        clear hlen hp hq hr hsz' hO hO3 hJt hcap hgb h3 hlt hk
        replace l1 := Lib.hid l1
        replace l2 := Lib.hid l2
        replace l3 := Lib.hid l3
        go_wp2_with fail
        refine (hN1.out _).mono ?_
        rintro e w4 ⟨rfl, hb⟩
        replace hF := hF.keep hR.lt hb
        replace hR := hR.keep hb
        replace hB := hB.trans (hb.mono hB.size)
        have c1' := cellK c1 hb
        have c2' := cellK c2 hb
        clear hb c0 c1 c2
        go_wp2_with fail
        refine (hN2.out _).mono ?_
        rintro e w5 ⟨rfl, hb⟩
        replace hF := hF.keep hR.lt hb
        replace hR := hR.keep hb
        replace hB := hB.trans (hb.mono hB.size)
        have c2 := cellK c2' hb
        clear hb c1' c2'
        go_wp2_with fail
        refine (hN3.out _).mono ?_
        rintro e w6 ⟨rfl, hb⟩
        replace hF := hF.keep hR.lt hb
        replace hR := hR.keep hb
        replace hB := hB.trans (hb.mono hB.size)
        clear hb c2 hN1 hN2 hN3
        obtain ⟨d0, d1, d2⟩ := id hR
        obtain ⟨f0, f1, f2⟩ := id hF
        cases k1 with
        | false =>
          have hPx := Lib.hid (show parseO l = none from by rw [hP.out]; simp)
          go_wp2_with fail
          obtain ⟨w6, h6, ⟨t0, t1, t2⟩, hb5⟩ := st3_ex hB (Nat.le_refl _) d0 d1 d2 0 0 0
          rw [← h6]
          refine bodyPost_ret (v := .tuple #[nV 0 0 0, .bool false]) (by simp [nV, results, Tryd.results17, go_sem, t0, t1, t2]) rfl ⟨by rw [hPx.out]; rfl, hb5⟩
        | true =>
          cases k2 with
          | false =>
            have hPx := Lib.hid (show parseO l = none from by rw [hP.out]; simp)
            go_wp2_with fail
            obtain ⟨w6, h6, ⟨t0, t1, t2⟩, hb5⟩ := st3_ex hB (Nat.le_refl _) d0 d1 d2 0 0 0
            rw [← h6]
            refine bodyPost_ret (v := .tuple #[nV 0 0 0, .bool false]) (by simp [nV, results, Tryd.results17, go_sem, t0, t1, t2]) rfl ⟨by rw [hPx.out]; rfl, hb5⟩
          | true =>
            cases k3 with
            | false =>
              have hPx := Lib.hid (show parseO l = none from by rw [hP.out]; simp)
              go_wp2_with fail
              obtain ⟨w6, h6, ⟨t0, t1, t2⟩, hb5⟩ := st3_ex hB (Nat.le_refl _) d0 d1 d2 0 0 0
              rw [← h6]
              refine bodyPost_ret (v := .tuple #[nV 0 0 0, .bool false]) (by simp [nV, results, Tryd.results17, go_sem, t0, t1, t2]) rfl ⟨by rw [hPx.out]; rfl, hb5⟩
            | true =>
              by_cases ha : a ≤ 2147483647
              · by_cases hb : b ≤ 2147483647
                · have hPx := Lib.hid (show parseO l = some (a, b, c) from by rw [hP.out]; simp [ha, hb])
                  have ha' : ¬ (a : Int) > 2147483647 := by omega
                  have hb' : ¬ (b : Int) > 2147483647 := by omega
                  have e1 : IntKind.i64.wrap (a : Int) = (a : Int) := by rw [IntKind.wrap_i64]; omega
                  have e2 : IntKind.i64.wrap (b : Int) = (b : Int) := by rw [IntKind.wrap_i64]; omega
                  clear ha hb
                  go_wp2_with fail
                  obtain ⟨w6, h6, ⟨t0, t1, t2⟩, hb5⟩ := st3_ex hB (Nat.le_refl _) d0 d1 d2 a b c
                  rw [← h6]
                  refine bodyPost_ret (v := .tuple #[nV a b c, .bool true]) (by simp [nV, results, Tryd.results17, go_sem, t0, t1, t2]) rfl ⟨by rw [hPx.out]; rfl, hb5⟩
                · have hPx := Lib.hid (show parseO l = none from by rw [hP.out]; simp [ha, hb])
                  have ha' : ¬ (a : Int) > 2147483647 := by omega
                  have hb' : (b : Int) > 2147483647 := by omega
                  clear ha hb
                  go_wp2_with fail
                  obtain ⟨w6, h6, ⟨t0, t1, t2⟩, hb5⟩ := st3_ex hB (Nat.le_refl _) d0 d1 d2 0 0 0
                  rw [← h6]
                  refine bodyPost_ret (v := .tuple #[nV 0 0 0, .bool false]) (by simp [nV, results, Tryd.results17, go_sem, t0, t1, t2]) rfl ⟨by rw [hPx.out]; rfl, hb5⟩
              · have hPx := Lib.hid (show parseO l = none from by rw [hP.out]; simp [ha])
                have ha' : (a : Int) > 2147483647 := by omega
                clear ha
                go_wp2_with fail
                obtain ⟨w6, h6, ⟨t0, t1, t2⟩, hb5⟩ := st3_ex hB (Nat.le_refl _) d0 d1 d2 0 0 0
                rw [← h6]
                refine bodyPost_ret (v := .tuple #[nV 0 0 0, .bool false]) (by simp [nV, results, Tryd.results17, go_sem, t0, t1, t2]) rfl ⟨by rw [hPx.out]; rfl, hb5⟩
      · have hPx := Lib.hid (parse_not (l := l) (by rw [hJt]; exact h3))
        obtain ⟨n, hn⟩ : ∃ n, J.length = n := ⟨_, rfl⟩
        have hne : 0 < J.length := by rw [← hJt]; obtain ⟨q, hq⟩ := splitD_pos l; omega
        obtain ⟨g, cap, rfl, hgb, hgl, hcap⟩ := hO.form hne
        rw [hn] at h3 ⊢
        have h3' : ¬ (n : Int) = 3 := by omega
        clear h3 hJt hO hne hcap hgb hgl hlt hk
        replace hn := Lib.hid hn
        obtain ⟨d0, d1, d2⟩ := id hR
        obtain ⟨f0, f1, f2⟩ := id hF
        go_wp2_with fail
        obtain ⟨w6, h6, ⟨t0, t1, t2⟩, hb5⟩ := st3_ex hB (Nat.le_refl _) d0 d1 d2 0 0 0
        rw [← h6]
        refine bodyPost_ret (v := .tuple #[nV 0 0 0, .bool false]) (by simp [nV, results, Tryd.results17, go_sem, t0, t1, t2]) rfl ⟨by rw [hPx.out]; rfl, hb5⟩
end Go.Proofs.YtdblioggncnapaaDoor
