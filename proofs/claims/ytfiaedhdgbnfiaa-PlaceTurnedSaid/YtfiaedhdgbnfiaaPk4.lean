/- place: the sort; what the map's range has collected. -/
import Derived.Test.YtfiaedhdgbnfiaaPk3
namespace Go.Proofs.Ytfiaedhdgbnfiaa
set_option linter.unusedVariables false
set_option linter.unusedSimpArgs false
open Go Go.RowKit Go.Maps Go.Sort Go.Proofs
/-- what has been collected while 'left' is still to come -/
structure Coll (may : List Fr) (left : Lit → Bool) (cnt : Nat) (ss : List Fr) : Prop where
  mem : ∀ y, y ∈ ss ↔ (y ∈ may ∧ left (kI y.1) = false)
  apart : Apart ss
  count : ss.length + cnt ≤ may.length
theorem Coll.start {may : List Fr} (h : Apart may) : Coll may (Maps.has (DMs may)) (Maps.size (DMs may)) [] where
  mem y := by
    refine ⟨fun h => (by cases h), fun ⟨h1, h2⟩ => ?_⟩
    rw [DMs_has, (hasC_iff _ _).mpr ⟨y, h1, rfl⟩] at h2
    cases h2
  apart := List.Pairwise.nil
  count := by rw [DMs_size may h]; simp
theorem Coll.step {may : List Fr} {left : Lit → Bool} {cnt cnt' : Nat} {ss : List Fr} {x c : Int} (hm : Apart may) (h : Coll may left cnt ss) (hl : left (kI x) = true) (hat : ∀ zd, (DMs may).atKey (kI x) zd = dI c) (hc : cnt' < cnt) :
    Coll may (fun z => left z && !z.sameKey (kI x)) cnt' (ss ++ [(x, c)]) := by
  have hin : (x, c) ∈ may := by
    have h1 := has_true_of_atKey hat
    rw [DMs_has] at h1
    obtain ⟨y, hy, e⟩ := (hasC_iff _ _).mp h1
    have h2 := DMs_at may hm y hy (dI 0)
    rw [e, hat (dI 0)] at h2
    injection h2 with h2
    injection h2 with _ h2
    have : y = (x, c) := Prod.ext e h2.symm
    rw [← this]; exact hy
  have hk : ∀ y : Fr, (kI y.1).sameKey (kI x) = true ↔ y.1 = x := fun y => by
    rw [WideAt.sameKey_iff (b := kI x) trivial]
    exact ⟨fun e => by injection e, fun e => by rw [e]⟩
  have uniq : ∀ y ∈ may, y.1 = x → y = (x, c) := fun y hy e => by
    have h1 := DMs_at may hm y hy (dI 0)
    rw [e, hat (dI 0)] at h1
    injection h1 with h1
    injection h1 with _ h1
    exact Prod.ext e h1.symm
  refine ⟨fun y => ?_, ?_, by have := h.count; rw [List.length_append, List.length_singleton]; omega⟩
  · rw [List.mem_append, List.mem_singleton, h.mem]
    constructor
    · rintro (⟨h1, h2⟩ | rfl)
      · exact ⟨h1, by simp [h2]⟩
      · refine ⟨hin, ?_⟩
        rw [(hk (x, c)).mpr rfl]; simp
    · rintro ⟨h1, h2⟩
      by_cases e : y.1 = x
      · exact .inr (uniq y h1 e)
      · refine .inl ⟨h1, ?_⟩
        have : (kI y.1).sameKey (kI x) = false := by
          cases hh : (kI y.1).sameKey (kI x) with
          | false => rfl
          | true => exact absurd ((hk y).mp hh) e
        rw [this] at h2
        simpa using h2
  · unfold Apart
    rw [List.pairwise_append]
    refine ⟨h.apart, List.pairwise_singleton _ _, fun y hy z hz => ?_⟩
    rw [List.mem_singleton] at hz
    subst hz
    intro e
    have := (h.mem y).mp hy
    rw [uniq y this.1 e] at this
    have h2 := this.2
    rw [show kI (x, c).1 = kI x from rfl, hl] at h2
    cases h2
theorem apart_nodup {l : List Fr} (h : Apart l) : l.Nodup := List.Pairwise.imp (fun h e => h (by rw [e])) h
theorem Coll.done {may : List Fr} {left : Lit → Bool} {cnt : Nat} {ss : List Fr} (hm : Apart may) (h : Coll may left cnt ss) (hl : ∀ kl, left kl = false) : srt ss = srt may :=
  srt_eq ((List.perm_ext_iff_of_nodup (apart_nodup h.apart) (apart_nodup hm)).mpr fun y => by rw [h.mem]; simp [hl])
theorem encF_len (x : Fr) : (encF x).length = 2 := rfl
theorem encF_one (x : Fr) : ∀ v ∈ encF x, v.oneCell' = true := fun v hv => by simp [encF] at hv; rcases hv with rfl | rfl <;> rfl
theorem holds_of {l : List Fr} {w : World} {g : Nat} (hc : ∀ i x, l[i]? = some x → w.cell? ⟨g, 0 + i * 2, none⟩ = some (.int .i64 x.1) ∧ w.cell? ⟨g, 0 + i * 2 + 1, none⟩ = some (.int .i64 x.2)) (hf : ∀ j, w.frozen? ⟨g, j, none⟩ = false) : HoldsK encF 2 w g 0 l.toArray := by
  intro j hj
  rw [size_flatK] at hj
  have hj' : j < l.length * 2 := by simpa using hj
  refine ⟨?_, hf _⟩
  rw [get_flatK _ _ _ _ hj]
  obtain ⟨x, hx⟩ : ∃ x, l[j / 2]? = some x := ⟨_, List.getElem?_eq_getElem (by omega)⟩
  have ex : l.toArray[j / 2]! = x := by
    obtain ⟨hi, e⟩ := List.getElem?_eq_some_iff.mp hx
    rw [getElem!_pos l.toArray (j / 2) (by simpa using hi)]
    simpa using e
  rw [ex]
  obtain ⟨a, b⟩ := hc _ x hx
  rcases (by omega : j % 2 = 0 ∨ j % 2 = 1) with e | e
  · rw [e, show 0 + j = 0 + j / 2 * 2 from by omega]
    exact a
  · rw [e, show 0 + j = 0 + j / 2 * 2 + 1 from by omega]
    exact b
theorem frs_of_holds {l : List Fr} {w : World} {g c : Nat} (h : HoldsK encF 2 w g 0 l.toArray) (hg : g < w.heap.size) (hc : l.length ≤ c) (hm : c ≤ maxLen) (hi : ∀ x ∈ l, I64 x.1 ∧ I64 x.2) : Frs l (.slice (some ⟨g, 0, none⟩) l.length c) w := by
  refine ⟨_, _, rfl, hc, hm, fun hp => ⟨g, 0, rfl, hg, fun i x hx => ?_⟩, hi⟩
  obtain ⟨hil, e⟩ := List.getElem?_eq_some_iff.mp hx
  have ex : l.toArray[i]! = x := by
    rw [getElem!_pos l.toArray i (by simpa using hil)]
    simpa using e
  have h0 := (HoldsK.cell h (i := i) (c := 0) (by simpa using hil) (by decide)).1
  have h1 := (HoldsK.cell h (i := i) (c := 1) (by simpa using hil) (by decide)).1
  rw [ex] at h0 h1
  exact ⟨h0, h1⟩
theorem below_sort {base g n : Nat} {w : World} {d : Array Fr} {os : Array Obj} (hb : base ≤ g) (hg : g < w.heap.size) : Below base w (sortWorldK encF 2 w g 0 n d os) := by
  refine ⟨rfl, rfl, rfl, size_sortWorldK_c encF 2 w g 0 n d os, fun k hk => ?_⟩
  unfold sortWorldK
  rw [heap_grow_old _ _ (by rw [size_putRowK]; show k < w.heap.size; omega)]
  unfold putRowK putRow mapBlock
  simp only [Array.getElem?_modify]
  rw [if_neg (by omega)]
  rfl
theorem srt_total (l : List Fr) : (l.toArray.toList.mergeSort fun x y => !(ltOf cfF) y x) = srt l := by
  unfold srt
  congr 1
  funext x y
  rw [ltF_of]; rfl
theorem sort_any (ss : List Fr) (v : Value) (base : Nat) (w : World) (h : OF ss v base w) (hn : ss.length ≤ 1000000) :
    Calls Try.prog 14 #[v, .func (.func 15) #[] #[]] w fun e w' => e = .returned (.tuple #[]) ∧ Hid (Frs (srt ss) v w') ∧ Below base w w' := by
  obtain ⟨-, -, -, -, -, -, hi⟩ := OF.frs h
  have hi' : ∀ x ∈ srt ss, I64 x.1 ∧ I64 x.2 := fun x hx => hi x ((srt_perm ss).mem_iff.mp hx)
  have hf := OF.frs h
  rcases h.1.2 with ⟨rfl, h0⟩ | ⟨g, cap, cur, rfl, hbg, hh, hcap, hmx, -⟩
  · obtain rfl : ss = [] := List.eq_nil_of_length_eq_zero h0
    have hcon := AnyF.slices_SortFunc_none Try.sortFree none 0 (.func (.func 15) #[] #[]) w
    refine hcon.mono ?_
    rintro e w' ⟨rfl, rfl⟩
    exact ⟨rfl, Lib.hid (by rw [show srt [] = [] from List.eq_nil_of_length_eq_zero (srt_len [])]; exact hf), Below.refl _ _⟩
  · have hg : g < w.heap.size := blk_lt hh
    have eg : ∀ args w, (callFunc 15 args).run Try.prog w = .ok (.enter 15 args) w := enters_of Try.func15 (by kernel_rfl) rfl
    have hH : HoldsK encF 2 w g 0 ss.toArray := by
      by_cases hp : 0 < ss.length
      · obtain ⟨A, c, e, -, -, h3, -⟩ := hf
        obtain ⟨b, o, e2, -, hc⟩ := h3 hp
        rw [e2] at e
        injection e with e
        injection e with e
        injection e with e1 e3
        subst e1 e3
        exact holds_of hc (blk_free hh)
      · intro j hj
        rw [size_flatK] at hj
        have : ss.length * 2 = 0 := by omega
        simp at hj
        omega
    have hcon := AnyQ.slices_SortFunc_total Try.sortFree 2 Try.isAgg32 Try.sizeOf32 encF encF_len encF_one cfF swoF 15 #[] g 0 cap ss.toArray w eg
      (fun _ _ _ _ x y => closure_any x y _) hH hg (by simp; omega) totF
    rw [srt_total] at hcon
    refine hcon.mono ?_
    rintro e w' ⟨rfl, n, os, rfl⟩
    refine ⟨rfl, Lib.hid ?_, below_sort hbg hg⟩
    have hHs := holdsK_sortWorldK_c encF 2 w g 0 ss.toArray (srt ss).toArray n os hH hg (by simp [srt_len])
    have := frs_of_holds (c := cap) hHs (Nat.lt_of_lt_of_le hg (size_sortWorldK_c encF 2 w g 0 n _ os)) (by rw [srt_len]; exact hcap) hmx hi'
    rwa [srt_len] at this
end Go.Proofs.Ytfiaedhdgbnfiaa
