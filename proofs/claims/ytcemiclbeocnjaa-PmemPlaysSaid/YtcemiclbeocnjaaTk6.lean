/-
  Layer 20 (tx): a map's keys, sorted by the library.
-/
import Derived.Test.YtcemiclbeocnjaaTk5
import Derived.Test.YtcemiclbeocnjaaTkS
import Derived.Shelf.SlIterI.Nil
import Derived.Shelf.SortM.Plain
import Derived.Shelf.SortM.SortNone
set_option linter.unusedVariables false
set_option linter.unusedSimpArgs false
namespace Go.Proofs.Ytcemiclbeocnjaa
open Go.RowKit Go.ChangeShapes Go.WideShapes Go.Deep Go.Maps Go.Sort Go.Shelf

theorem keys_facts {H : Type} {D0 : DataW H} {P : Program} {k : TypeId} {R : Value → Option (DataW H × List MemPlace)} {w : World} {b n : Nat} (hown : w.ownsMap P k R b n D0) (K : Keyed P k) (hk : P.underlying k = some (.int .i64)) :
    (intKeys D0).Nodup ∧ (∀ x, x ∈ intKeys D0 ↔ has D0 (.int .i64 x) = true) ∧ (intKeys D0).length ≤ n := by
  have hsz := hown.size_le
  obtain ⟨es, hD, hpw, _⟩ := hown.entries K
  obtain ⟨es', hD', hko⟩ := hown.keysOf
  obtain rfl : es = es' := by rw [hD] at hD'; simpa using hD'
  subst hD
  have hk2 : ∀ p ∈ es, ∃ x, p.1 = .int .i64 x := fun p hp => by obtain ⟨v, hv⟩ := hko p hp; obtain ⟨x, _, hx, _⟩ := Maps.keyOf_i64 hk hv; exact ⟨x, hx⟩
  refine ⟨?_, fun x => ?_, ?_⟩
  · show (es.map fun p => Go.intOf p.1).Nodup
    refine List.pairwise_map.2 (hpw.imp_of_mem fun {p q} hp' hq' hne e => hne ?_)
    obtain ⟨a, ha⟩ := hk2 p hp'
    obtain ⟨b, hb⟩ := hk2 q hq'
    rw [ha, hb] at e ⊢
    exact congrArg _ e
  · rw [has_eq, List.any_eq_true]
    show x ∈ (es.map fun p => Go.intOf p.1) ↔ _
    rw [List.mem_map]
    constructor
    · rintro ⟨p, hp', rfl⟩
      obtain ⟨a, ha⟩ := hk2 p hp'
      exact ⟨p, hp', by rw [ha]; simp [Lit.sameKey, Go.intOf]⟩
    · rintro ⟨p, hp', hs⟩
      obtain ⟨a, ha⟩ := hk2 p hp'
      rw [ha] at hs
      exact ⟨p, hp', by rw [ha]; simpa [Lit.sameKey, Go.intOf] using hs⟩
  · show (es.map fun p => Go.intOf p.1).length ≤ n
    rw [List.length_map]
    exact hsz
theorem iE_map (l : List Int) : l.flatMap iE = l.map encZ := by
  induction l with
  | nil => rfl
  | cons x l ih => rw [List.flatMap_cons, ih]; rfl
/-- the keys, rising -/
structure KeysOf (g : Gf) (L : List Int) : Prop where
  inc : L.Pairwise (· < ·)
  mem : ∀ x, x ∈ L ↔ ∃ f, g x = some f
theorem KeysOf.uniq {g : Gf} {L J : List Int} (h : KeysOf g L) (h2 : KeysOf g J) : L = J := by
  have hp : L.Perm J := (List.perm_ext_iff_of_nodup (h.inc.imp (fun {a b} hab e => by omega)) (h2.inc.imp (fun {a b} hab e => by omega))).2 fun x => by rw [h.mem, h2.mem]
  exact hp.eq_of_pairwise (le := (· < ·)) (fun a b _ _ h1 h2 => by omega) h.inc h2.inc
theorem sort_inc {J : List Int} (h : J.Nodup) : (J.mergeSort fun x y => decide (x ≤ y)).Pairwise (· < ·) := by
  have h1 : (J.mergeSort fun x y => decide (x ≤ y)).Pairwise (fun a b => decide (a ≤ b) = true) := List.pairwise_mergeSort (fun a b c h1 h2 => by simp only [decide_eq_true_eq] at *; omega) (fun a b => by simp only [Bool.or_eq_true, decide_eq_true_eq]; omega) J
  have h2 : (J.mergeSort fun x y => decide (x ≤ y)).Nodup := (List.mergeSort_perm J _).nodup_iff.2 h
  exact (h1.and h2).imp (fun {a b} hab => by
    have h3 := hab.1
    simp only [decide_eq_true_eq] at h3
    have h4 := hab.2
    omega)

theorem sortsA (m : Nat) : AnyZI.SortsIn Try.prog sortedA_ren Fence.wide m :=
  ⟨fun blk off cap ss W hH hblk hsz => callsIn_wide.2 (AnyM.slices_Sort_int sortA blk off cap ss W hH hblk hsz),
   fun p cap W => callsIn_wide.2 (AnyM.slices_Sort_int_none sortA p cap W)⟩

theorem Keys_any (M : Nat) (w : World) : Calls Try.prog 96 #[.map (some M)] w fun e w' =>
    e = .returned (.func (.func 102) #[] #[.pointer (some ⟨w.heap.size, 0, none⟩)]) ∧ w' = w.alloc (.cells #[.map (some M)] 105) :=
  callsIn_wide.1 (AnyZI.keys_in keysF Fence.wide 5 trivial rfl (some M) w)

set_option maxHeartbeats 1000000 in
theorem Sorted_any (M b n : Nat) (g : Gf) (w : World) (hm : MapF w M n g) (hb : w.cell? ⟨b, 0, none⟩ = some (.map (some M))) (hn : n ≤ 1000000) :
    Calls Try.prog 86 #[.func (.func 102) #[] #[.pointer (some ⟨b, 0, none⟩)]] w fun e w' =>
      ∃ v L, e = .returned v ∧ OwnE 3 1 iE w' w.heap.size v L ∧ KeysOf g L ∧ L.length ≤ n ∧ Below w.heap.size w w' := by
  obtain ⟨D, ho, hp⟩ := hm
  have hbl := World.block_lt_of_cell? _ _ hb
  obtain ⟨kn, km, kl⟩ := keys_facts ho tlaw Try.underlying3
  have hsz := ho.size_le
  have hseq : SeqGives Fence.wide 2 Try.prog 102 #[.pointer (some ⟨b, 0, none⟩)] encZ (fun ss => ss.Perm (intKeys D)) (Maps.size D) w :=
    AnyZI.keys_gives (ρ := keysF_ren) { keysF with } Fence.wide _ trivial rfl (by omega) b M n D w hbl hb ho
  have cS := AnyZI.sorted_in sortedA Fence.wide 5 trivial trivial trivial trivial rfl (by omega) (sortsA _) (enters_of Try.func98 (by kernel_rfl) rfl) 102 #[.pointer (some ⟨b, 0, none⟩)] trivial (enters_of Try.func102 (by kernel_rfl) rfl) _ _ (by unfold maxLen; omega) (by omega) _ hseq
  change CallsIn _ _ Try.prog 86 _ _ _ at cS
  refine (callsIn_wide.1 cS).mono ?_
  rintro e w' ⟨v, ss, rfl, hS, hrow, _, hbw⟩
  have hnd : ss.Nodup := hS.nodup_iff.2 kn
  have hlen : ss.length ≤ n := by rw [hS.length_eq]; exact kl
  refine ⟨v, ss.mergeSort fun x y => decide (x ≤ y), rfl, ?_, ⟨sort_inc hnd, fun x => ?_⟩, by rw [List.length_mergeSort]; exact hlen, hbw⟩
  · unfold OwnE
    rw [iE_map, List.length_mergeSort]
    exact hrow
  · rw [(List.mergeSort_perm ss _).mem_iff, hS.mem_iff, km]
    constructor
    · intro h
      have hw := intKeys_wf ho Try.underlying3 x ((km x).2 h)
      rw [hp.has x (wf_I64 hw)] at h
      exact Option.isSome_iff_exists.1 h
    · rintro ⟨f, hf⟩
      rw [hp.has x (hp.got x f hf).1, hf]; rfl
end Go.Proofs.Ytcemiclbeocnjaa
