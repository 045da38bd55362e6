/-
  Layer 20 (tx): the code's transaction and the document's: when they are alike, and that each operation leaves them so (plain).
-/
import Derived.Test.YtcemiclbeocnjaaTk16
set_option linter.unusedVariables false
set_option linter.unusedSimpArgs false
namespace Go.Proofs.Ytcemiclbeocnjaa
open Go.RowKit Go.ChangeShapes Go.WideShapes Go.Deep Go.Maps

def KeyF (g : Gf) : Prop := ∀ x f, g x = some f → GoodF f ∧ f.2.1 = x
theorem made_pw {g : Gf} (hk : ∃ L, KeysOf g L) (h2 : KeyF g) : (madeL g).Pairwise (fun a b => a.2.1 < b.2.1) := by
  obtain ⟨L, hL⟩ := hk
  rw [madeL_eq hL, List.pairwise_map]
  refine hL.inc.imp_of_mem ?_
  intro a b ha hb hab
  obtain ⟨f, hf⟩ := (hL.mem a).1 ha
  obtain ⟨f2, hf2⟩ := (hL.mem b).1 hb
  rw [hf, hf2, Option.getD_some, Option.getD_some, (h2 _ _ hf).2, (h2 _ _ hf2).2]
  exact hab
theorem made_of {g : Gf} {M : List Fx} (hp : M.Pairwise (fun a b => a.2.1 < b.2.1)) (hm : ∀ f, f ∈ M ↔ g f.2.1 = some f) (h2 : KeyF g) : (∃ L, KeysOf g L) ∧ madeL g = M := by
  have hL : KeysOf g (M.map (·.2.1)) := ⟨by rw [List.pairwise_map]; exact hp, fun x => by
    rw [List.mem_map]
    constructor
    · rintro ⟨f, hf, rfl⟩; exact ⟨f, (hm f).1 hf⟩
    · rintro ⟨f, hf⟩
      have e := (h2 x f hf).2
      exact ⟨f, (hm f).2 (by rw [e]; exact hf), e⟩⟩
  refine ⟨⟨_, hL⟩, ?_⟩
  rw [madeL_eq hL, List.map_map]
  have : ∀ f ∈ M, ((fun x => (g x).getD fx0) ∘ fun x : Fx => x.2.1) f = f := fun f hf => by
    show (g f.2.1).getD fx0 = f
    rw [(hm f).1 hf]; rfl
  rw [List.map_congr_left this, List.map_id']
theorem lookF_iff : ∀ {M : List Fx} {x : Int} {f : Fx}, M.Pairwise (fun a b => a.2.1 < b.2.1) → (lookF M x = some f ↔ f ∈ M ∧ f.2.1 = x)
  | [], x, f, _ => by simp [lookF]
  | g :: M, x, f, h => by
    obtain ⟨h1, h2⟩ := List.pairwise_cons.1 h
    show (if g.2.1 = x then some g else lookF M x) = some f ↔ _
    by_cases e : g.2.1 = x
    · rw [if_pos e]
      constructor
      · intro q; injection q with q; subst q; exact ⟨by simp, e⟩
      · rintro ⟨q, q2⟩
        rcases List.mem_cons.1 q with rfl | q
        · rfl
        · have := h1 f q; omega
    · rw [if_neg e, lookF_iff h2]
      constructor
      · rintro ⟨q, q2⟩; exact ⟨by simp [q], q2⟩
      · rintro ⟨q, q2⟩
        rcases List.mem_cons.1 q with rfl | q
        · exact absurd q2 e
        · exact ⟨q, q2⟩
theorem look_made {g : Gf} (hk : ∃ L, KeysOf g L) (h2 : KeyF g) (x : Int) : lookF (madeL g) x = g x := by
  have hp := made_pw hk h2
  cases hg : g x with
  | some f => rw [lookF_iff hp, made_mem hk h2, (h2 x f hg).2]; exact ⟨hg, rfl⟩
  | none =>
    cases hl : lookF (madeL g) x with
    | none => rfl
    | some f =>
      obtain ⟨q, q2⟩ := (lookF_iff hp).1 hl
      rw [made_mem hk h2, q2, hg] at q
      cases q
theorem del_key {g : Gf} (h2 : KeyF g) (x : Int) : KeyF (delF g x) := fun y f h => by
  unfold delF at h
  by_cases e : y = x
  · rw [if_pos e] at h; cases h
  · rw [if_neg e] at h; exact h2 y f h
theorem put_key {g : Gf} (h2 : KeyF g) {f : Fx} (hf : GoodF f) : KeyF (putF g f.2.1 f) := fun y c h => by
  unfold putF at h
  by_cases e : y = f.2.1
  · rw [if_pos e] at h; injection h with h; subst h; exact ⟨hf, e.symm⟩
  · rw [if_neg e] at h; exact h2 y c h
theorem cut_made {g : Gf} (hk : ∃ L, KeysOf g L) (h2 : KeyF g) (x : Int) : (∃ L, KeysOf (delF g x) L) ∧ madeL (delF g x) = cutF (madeL g) x := by
  refine made_of ?_ (fun f => ?_) (del_key h2 x)
  · exact (made_pw hk h2).sublist List.filter_sublist
  · unfold cutF delF
    rw [List.mem_filter, made_mem hk h2]
    by_cases e : f.2.1 = x
    · simp [e]
    · rw [if_neg e]; simp [e]
def insRes (f : Fx) (p : List Fx × Bool) : List Fx := if p.2 then p.1 else p.1 ++ [f]
theorem ins_true (f : Fx) : ∀ (M t : List Fx), M.foldl (insStep f) (t, true) = (t ++ M, true)
  | [], t => by simp
  | g :: M, t => by
    rw [List.foldl_cons]
    have : insStep f (t, true) g = (t ++ [g], true) := by simp [insStep]
    rw [this, ins_true f M]
    simp
theorem ins_false (f : Fx) : ∀ (M t : List Fx), M.Pairwise (fun a b => a.2.1 < b.2.1) → (∀ g ∈ M, g.2.1 ≠ f.2.1) → insRes f (M.foldl (insStep f) (t, false)) = t ++ (M.filter (fun g => decide (g.2.1 < f.2.1)) ++ f :: M.filter (fun g => decide (f.2.1 < g.2.1)))
  | [], t, _, _ => by simp [insRes]
  | g :: M, t, hp, hn => by
    obtain ⟨h1, h2⟩ := List.pairwise_cons.1 hp
    have hg := hn g (by simp)
    rw [List.foldl_cons]
    by_cases q : f.2.1 < g.2.1
    · have e : insStep f (t, false) g = ((t ++ [f]) ++ [g], true) := by simp [insStep, q]
      rw [e, ins_true]
      have a1 : (g :: M).filter (fun g => decide (g.2.1 < f.2.1)) = [] := by
        rw [List.filter_eq_nil_iff]
        intro c hc
        rcases List.mem_cons.1 hc with rfl | hc
        · simp; omega
        · have := h1 c hc; simp; omega
      have a2 : (g :: M).filter (fun g => decide (f.2.1 < g.2.1)) = g :: M := by
        rw [List.filter_eq_self]
        intro c hc
        rcases List.mem_cons.1 hc with rfl | hc
        · simpa using q
        · have := h1 c hc; simp; omega
      rw [a1, a2]
      simp [insRes]
    · have e : insStep f (t, false) g = (t ++ [g], false) := by simp [insStep, q]
      rw [e, ins_false f M _ h2 (fun c hc => hn c (by simp [hc]))]
      have a1 : g.2.1 < f.2.1 := by omega
      rw [List.filter_cons_of_pos (by simpa using a1), List.filter_cons_of_neg (by simpa using q)]
      simp
theorem insF_eq {M : List Fx} {f : Fx} (hp : M.Pairwise (fun a b => a.2.1 < b.2.1)) (hn : ∀ g ∈ M, g.2.1 ≠ f.2.1) : insF M f = M.filter (fun g => decide (g.2.1 < f.2.1)) ++ f :: M.filter (fun g => decide (f.2.1 < g.2.1)) := by
  have := ins_false f M [] hp hn
  rw [List.nil_append] at this
  exact this
theorem ins_made {g : Gf} (hk : ∃ L, KeysOf g L) (h2 : KeyF g) {f : Fx} (hf : GoodF f) : (∃ L, KeysOf (putF g f.2.1 f) L) ∧ madeL (putF g f.2.1 f) = insF (cutF (madeL g) f.2.1) f := by
  have hp := (made_pw hk h2).sublist (List.filter_sublist (l := madeL g) (p := fun c => c.2.1 != f.2.1))
  have hn : ∀ c ∈ cutF (madeL g) f.2.1, c.2.1 ≠ f.2.1 := fun c hc => by
    unfold cutF at hc
    have := (List.mem_filter.1 hc).2
    simpa using this
  have hm : ∀ c, c ∈ cutF (madeL g) f.2.1 ↔ g c.2.1 = some c ∧ c.2.1 ≠ f.2.1 := fun c => by
    unfold cutF
    rw [List.mem_filter, made_mem hk h2]
    simp
  have he := insF_eq (f := f) hp hn
  refine made_of ?_ (fun c => ?_) (put_key h2 hf)
  · show (insF (cutF (madeL g) f.2.1) f).Pairwise _
    have he' : insF (cutF (madeL g) f.2.1) f = _ := he
    rw [he', List.pairwise_append]
    refine ⟨hp.sublist List.filter_sublist, List.pairwise_cons.2 ⟨fun c hc => ?_, hp.sublist List.filter_sublist⟩, fun c hc d hd => ?_⟩
    · simpa using (List.mem_filter.1 hc).2
    · have h1 := (List.mem_filter.1 hc).2
      simp at h1
      rcases List.mem_cons.1 hd with rfl | hd
      · exact h1
      · have h3 := (List.mem_filter.1 hd).2
        simp at h3
        omega
  · obtain ⟨C, hC⟩ : ∃ C, cutF (madeL g) f.2.1 = C := ⟨_, rfl⟩
    have he' : insF C f = C.filter (fun g => decide (g.2.1 < f.2.1)) ++ f :: C.filter (fun g => decide (f.2.1 < g.2.1)) := by rw [← hC]; exact he
    have hm' := hm c
    show c ∈ insF (cutF (madeL g) f.2.1) f ↔ _
    rw [hC] at hm' ⊢
    rw [he', List.mem_append, List.mem_cons, List.mem_filter, List.mem_filter, hm']
    unfold putF
    by_cases e : c.2.1 = f.2.1
    · rw [if_pos e]
      simp only [e, ne_eq, not_true_eq_false, and_false, false_and, false_or, or_false, Option.some.injEq]
      exact ⟨fun q => q.symm, fun q => q.symm⟩
    · rw [if_neg e]
      have hne : c ≠ f := fun q => e (by rw [q])
      simp only [e, hne, ne_eq, not_false_eq_true, and_true, false_or, decide_eq_true_eq]
      constructor
      · rintro (⟨q, _⟩ | ⟨q, _⟩) <;> exact q
      · intro q
        rcases Int.lt_or_gt_of_ne e with z | z
        · exact .inl ⟨q, z⟩
        · exact .inr ⟨q, z⟩
theorem insF_len (M : List Fx) (f : Fx) : (insF M f).length ≤ M.length + 1 := by
  have := insFold_len f M ([], false)
  unfold insF insAll
  split
  · rename_i q; rw [q] at this; simp at this; omega
  · rename_i q
    have q' : (M.foldl (insStep f) ([], false)).2 = false := by simpa using q
    rw [q'] at this; simp at this ⊢; omega

theorem cntP_le (p : Int → Bool) (lo : Int) : ∀ n : Nat, cntP p lo n ≤ n
  | 0 => by simp [cntP]
  | n + 1 => by
    have := cntP_le p lo n
    simp only [cntP]
    split <;> omega
theorem len_tot : ∀ {l : List Sp}, (∀ x ∈ l, 1 ≤ x.2) → (l.length : Int) ≤ totS l
  | [], _ => by simp [totS]
  | x :: l, h => by
    have h1 := h x (by simp)
    have := len_tot (l := l) (fun y hy => h y (by simp [hy]))
    rw [totS_cons, List.length_cons]; omega
/-- the code's transaction and the document's are alike, k operations behind New -/
structure Rel (s : St) (r : Rf) (k : Nat) : Prop where
  depth : s.depth = r.depth
  bad : s.bad = r.bad
  gone : s.gone = r.gone
  root : s.root = r.root
  named : s.named = r.is
  keys : ∃ L, KeysOf s.fresh L
  made : madeL s.fresh = r.fresh
  words : ∀ z, SHas s.noted z ↔ SHas r.words z
  ok : Ok s.noted
  fr : KeyF s.fresh
  n : s.n ≤ k
  d0 : 0 ≤ s.depth
  d1 : s.depth ≤ k
  gl : s.gone.length ≤ k
  ml : r.fresh.length ≤ k
  cnt : (r.words.length : Int) ≤ cntP (hasB r.words) 0 300
  sp : ∀ x ∈ r.words, 1 ≤ x.2
theorem rel0 : Rel st0 rf0 0 := ⟨rfl, rfl, rfl, rfl, rfl, ⟨[], keys0⟩, made0, fun z => Iff.rfl, Ok.nil, (fun x f h => by cases h), Nat.le_refl _, Int.le_refl _, Int.le_refl _, Nat.le_refl _, Nat.le_refl _, (by show (0 : Int) ≤ cntP (hasB []) 0 300; rw [cntP_zero (hasB []) 0 (fun w => rfl)]; exact Int.le_refl _), (fun x h => by cases h)⟩
theorem Rel.goodS {s : St} {r : Rf} {k : Nat} (h : Rel s r k) (hk : k ≤ 1000) : GoodS s := ⟨h.ok, h.fr, by have := h.n; omega⟩
theorem Rel.goodR {s : St} {r : Rf} {k : Nat} (h : Rel s r k) (hk : k ≤ 1000) : GoodR r := by
  refine ⟨fun f hf => made_good h.keys h.fr f (by rw [h.made]; exact hf), by have := h.ml; omega, fun x hx => ?_, ?_⟩
  · have h1 := h.sp x hx
    have h2 := h.ok.low x.1 ((h.words _).2 ⟨x, hx, Int.le_refl _, by omega⟩)
    have h3 := h.ok.low (x.1 + x.2 - 1) ((h.words _).2 ⟨x, hx, by omega, by omega⟩)
    unfold SB; omega
  · have := h.cnt
    have := cntP_le (hasB r.words) 0 300
    omega
theorem Rel.noB {s : St} {r : Rf} {k : Nat} (h : Rel s r k) (z : Int) : noB r z = true ↔ ¬ SHas (mayL s) z := by
  unfold mayL Go.Proofs.Ytcemiclbeocnjaa.noB
  rw [allS_has _ _ h.ok (made_good h.keys h.fr), h.made, ← ownB_iff, h.words, ← hasB_iff]
  cases ownB r.fresh z <;> cases hasB r.words z <;> simp
theorem Rel.mayOk {s : St} {r : Rf} {k : Nat} (h : Rel s r k) : Ok (mayL s) := allS_ok _ _ h.ok (made_good h.keys h.fr)
theorem Rel.new {s : St} {r : Rf} {k : Nat} (h : Rel s r k) (a : Int) (n : Nat) : newL r a n = missS (mayL s) (a, n) := by
  obtain ⟨h1, h2, _, _, _⟩ := ofN_inv (Go.Proofs.Ytcemiclbeocnjaa.noB r) a n
  refine SRight.eq h1 (missS_right h.mayOk.right) (fun z => ?_)
  show SHas (ofN (Go.Proofs.Ytcemiclbeocnjaa.noB r) a n).l z ↔ _
  rw [h2, missS_has h.mayOk.right, h.noB]
  unfold SIn
  simp only []
  constructor
  · rintro ⟨x, y, q⟩; exact ⟨⟨x, y⟩, q⟩
  · rintro ⟨⟨x, y⟩, q⟩; exact ⟨x, y, q⟩
theorem Rel.may {s : St} {r : Rf} {k : Nat} (h : Rel s r k) {a : Int} {n : Int} {t : Bool} (ht : t = true ↔ ∀ z, a ≤ z → z < a + n → Go.Proofs.Ytcemiclbeocnjaa.noB r z = false) : covS (mayL s) (a, n) = t := by
  rw [Bool.eq_iff_iff, covS_iff h.mayOk.right, ht]
  constructor
  · intro q z h1 h2
    have := q z ⟨h1, h2⟩
    cases hz : Go.Proofs.Ytcemiclbeocnjaa.noB r z with
    | false => rfl
    | true => exact absurd this ((h.noB z).1 hz)
  · intro q z hz
    have := q z hz.1 hz.2
    rcases Classical.em (SHas (mayL s) z) with e | e
    · exact e
    · rw [(h.noB z).2 e] at this; cases this
theorem Rel.noted {s : St} {r : Rf} {k : Nat} (h : Rel s r k) : notedL r.words = s.noted := by
  obtain ⟨h1, h2, _, _, _⟩ := ofN_inv (ofP false r.words (0, 0)) 0 300
  refine SRight.eq h1 h.ok.right (fun z => ?_)
  show SHas (ofN (ofP false r.words (0, 0)) 0 300).l z ↔ _
  rw [h2]
  have hz : ofP false r.words (0, 0) z = hasB r.words z := by
    show (hasB r.words z || inB (0, 0) z) = _
    have : inB (0, 0) z = false := by unfold inB; simp <;> omega
    rw [this, Bool.or_false]
  rw [hz, hasB_iff, ← h.words]
  constructor
  · exact fun q => q.2.2
  · intro q
    have := h.ok.low z q
    exact ⟨by omega, by omega, q⟩
theorem Rel.mono {s : St} {r : Rf} {k j : Nat} (h : Rel s r k) (hj : k ≤ j) : Rel s r j :=
  ⟨h.depth, h.bad, h.gone, h.root, h.named, h.keys, h.made, h.words, h.ok, h.fr, by have := h.n; omega, h.d0, by have := h.d1; omega, by have := h.gl; omega, by have := h.ml; omega, h.cnt, h.sp⟩
theorem Rel.note {s : St} {r : Rf} {k : Nat} (h : Rel s r k) {a : Int} {n : Nat} (ha : 0 ≤ a) (hab : a + n ≤ 300) : Rel { s with noted := noteS s.noted (missS (mayL s) (a, n)) } { r with words := r.words ++ newL r a n } k := by
  have hin : ∀ z, SIn (a, (n : Int)) z → 0 ≤ z ∧ z < 300 := inn ha hab
  have hmo := h.mayOk.miss hin
  have hnew := h.new a n
  have hhas : ∀ z, SHas (newL r a n) z → ¬ SHas s.noted z := fun z hz q => by
    rw [hnew, missS_has h.mayOk.right] at hz
    exact hz.2 ((allS_has _ _ h.ok (made_good h.keys h.fr) z).2 (.inl q))
  refine ⟨h.depth, h.bad, h.gone, h.root, h.named, h.keys, h.made, fun z => ?_, noteS_ok _ _ h.ok (fun x hx => hmo.inn hx), h.fr, h.n, h.d0, h.d1, h.gl, h.ml, ?_, fun x hx => ?_⟩
  · show SHas (noteS s.noted (missS (mayL s) (a, n))) z ↔ SHas (r.words ++ newL r a n) z
    rw [noteS_has _ _ h.ok (fun x hx => hmo.inn hx), SHas.app, h.words, hnew]
  · show ((r.words ++ newL r a n).length : Int) ≤ cntP (hasB (r.words ++ newL r a n)) 0 300
    have hN : Ok (newL r a n) := by rw [hnew]; exact hmo
    rw [cntP_or (hasB r.words) (hasB (newL r a n)) (hasB (r.words ++ newL r a n)) 0 (fun z => by unfold hasB; rw [List.any_append]) (fun z hz => hhas z ((hasB_iff _ _).1 hz.2) ((h.words z).2 ((hasB_iff _ _).1 hz.1))) 300]
    have h1 := tot_cnt 0 300 (newL r a n) hN.right (fun x hx => by have := hN.span hx; omega)
    have h2 := len_tot (l := newL r a n) hN.right.1
    have h3 := h.cnt
    rw [List.length_append]
    push_cast
    omega
  · rcases List.mem_append.1 hx with q | q
    · exact h.sp x q
    · rw [hnew] at q; exact hmo.right.1 x q
theorem Rel.make {s : St} {r : Rf} {k : Nat} (h : Rel s r k) {f : Fx} (hf : GoodF f) : Rel { s with fresh := putF s.fresh f.2.1 f, n := s.n + 1 } { r with fresh := insF (cutF r.fresh f.2.1) f } (k + 1) := by
  obtain ⟨h1, h2⟩ := ins_made h.keys h.fr hf
  refine ⟨h.depth, h.bad, h.gone, h.root, h.named, h1, by show madeL (putF s.fresh f.2.1 f) = _; rw [h2, h.made], h.words, h.ok, put_key h.fr hf, by have := h.n; simp only []; omega, h.d0, by have := h.d1; simp only []; omega, by have := h.gl; simp only []; omega, ?_, h.cnt, h.sp⟩
  have := insF_len (cutF r.fresh f.2.1) f
  have := cutF_len r.fresh f.2.1
  have := h.ml
  simp only []; omega
theorem Rel.unmake {s : St} {r : Rf} {k : Nat} (h : Rel s r k) (x : Int) : Rel { s with fresh := delF s.fresh x } { r with fresh := cutF r.fresh x } k ∧ lookF r.fresh x = s.fresh x := by
  obtain ⟨h1, h2⟩ := cut_made h.keys h.fr x
  refine ⟨⟨h.depth, h.bad, h.gone, h.root, h.named, h1, by show madeL (delF s.fresh x) = _; rw [h2, h.made], h.words, h.ok, del_key h.fr x, h.n, h.d0, h.d1, h.gl, ?_, h.cnt, h.sp⟩, by rw [← h.made]; exact look_made h.keys h.fr x⟩
  have := cutF_len r.fresh x
  have := h.ml
  simp only []; omega
theorem Rel.look {s : St} {r : Rf} {k : Nat} (h : Rel s r k) (x : Int) : lookF r.fresh x = s.fresh x := by rw [← h.made]; exact look_made h.keys h.fr x
end Go.Proofs.Ytcemiclbeocnjaa
