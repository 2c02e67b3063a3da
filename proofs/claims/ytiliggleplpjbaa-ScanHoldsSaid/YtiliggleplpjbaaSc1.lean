/- scan, plain: what is found, what counts, and what it comes to. -/
import Derived.Test.YtiliggleplpjbaaSl2
import Derived.Test.YtiliggleplpjbaaCtM
namespace Go.Proofs.Ytiliggleplpjbaa
set_option linter.unusedVariables false
set_option linter.unusedSimpArgs false
open Go Go.RowKit Go.Maps
/-- a record that was found, and where -/
structure Fd where
  cart : Int
  pos : Int
  r : Rc
deriving DecidableEq
/-- it counts -/
def cnt (f : Fd) : Bool := inB f.cart 0 31 && inB f.pos 0 1023 && goodB f.r
def nowP : Int × Int := (0, 1024)
structure Vr where
  key : By
  gen : Int
  size : Int
  sum : By
deriving DecidableEq
def Rc.vr (r : Rc) : Vr := ⟨r.key, r.gen, r.size, r.sum⟩
def isSh (r : Rc) (v : Vr) (i : Nat) : Bool := decide (r.kind = 2) && decide (r.vr = v) && decide (10 * r.group + r.index = (i : Int))
def placeOf (C : List Fd) (v : Vr) (i : Nat) : Int × Int := match C.find? (fun f => isSh f.r v i) with | some f => (f.cart, f.pos) | none => nowP
def nSlots (v : Vr) : Nat := 10 * (groupsOf v.size).toNat
def placesOf (C : List Fd) (v : Vr) : List (Int × Int) := (List.range (nSlots v)).map (placeOf C v)
def entV (C : List Fd) (v : Vr) : EnP := ⟨v.key, v.gen, v.size, v.sum, placesOf C v⟩
def present (l : List (Int × Int)) : Nat := (l.filter (fun p => decide (p ≠ nowP))).length
def fewestL (l : List (Int × Int)) : Nat := (List.range (l.length / 10)).foldl (fun m g => min m (present ((l.drop (10 * g)).take 10))) 10
def deadB (C : List Fd) (v : Vr) : Bool := C.any (fun f => decide (f.r.kind = 3) && decide (f.r.key = v.key) && decide (v.gen ≤ f.r.gen))
def usable (C : List Fd) (v : Vr) : Bool := decide (8 ≤ fewestL (placesOf C v)) && !deadB C v
def mostG (C : List Fd) : Int := C.foldl (fun m f => max m f.r.gen) 0
/-- a is the better copy -/
def aheadB (a b : EnP) : Bool :=
  if fewestL a.places ≠ fewestL b.places then decide (fewestL b.places < fewestL a.places)
  else if a.gen ≠ b.gen then decide (b.gen < a.gen)
  else if a.size ≠ b.size then decide (a.size < b.size)
  else decide (a.sum < b.sum)
theorem aheadB_total (a b : EnP) (h : ¬ (a.gen = b.gen ∧ a.size = b.size ∧ a.sum = b.sum)) : aheadB a b = true ∨ aheadB b a = true := by
  unfold aheadB
  by_cases h1 : fewestL a.places = fewestL b.places
  · by_cases h2 : a.gen = b.gen
    · by_cases h3 : a.size = b.size
      · have h4 : a.sum ≠ b.sum := fun h4 => h ⟨h2, h3, h4⟩
        simp only [h1, h2, h3, ne_eq, not_true_eq_false, if_false, decide_eq_true_eq]
        by_cases h5 : a.sum < b.sum
        · exact .inl h5
        · exact .inr (bl_ne h5 h4)
      · simp only [h1, h2, h3, Ne.symm h3, ne_eq, not_true_eq_false, not_false_eq_true, if_true, if_false, decide_eq_true_eq]
        omega
    · simp only [h1, h2, Ne.symm h2, ne_eq, not_true_eq_false, not_false_eq_true, if_true, if_false, decide_eq_true_eq]
      omega
  · simp only [h1, Ne.symm h1, ne_eq, not_false_eq_true, if_true, decide_eq_true_eq]
    omega
theorem aheadB_asym {a b : EnP} (h : aheadB a b = true) : aheadB b a = false := by
  unfold aheadB at *
  by_cases h1 : fewestL a.places = fewestL b.places
  · by_cases h2 : a.gen = b.gen
    · by_cases h3 : a.size = b.size
      · simp only [h1, h2, h3, ne_eq, not_true_eq_false, if_false, decide_eq_true_eq, decide_eq_false_iff_not] at *
        exact fun h4 => bl_irrefl _ (bl_trans h h4)
      · simp only [h1, h2, h3, Ne.symm h3, ne_eq, not_true_eq_false, not_false_eq_true, if_true, if_false, decide_eq_true_eq, decide_eq_false_iff_not] at *
        omega
    · simp only [h1, h2, Ne.symm h2, ne_eq, not_true_eq_false, not_false_eq_true, if_true, if_false, decide_eq_true_eq, decide_eq_false_iff_not] at *
      omega
  · simp only [h1, Ne.symm h1, ne_eq, not_false_eq_true, if_true, decide_eq_true_eq, decide_eq_false_iff_not] at *
    omega
theorem aheadB_trans {a b c : EnP} (h1 : aheadB a b = true) (h2 : aheadB b c = true) : aheadB a c = true := by
  unfold aheadB at *
  generalize fewestL a.places = x at *
  generalize fewestL b.places = y at *
  generalize fewestL c.places = z at *
  split at h1 <;> split at h2 <;> (try simp only [decide_eq_true_eq] at h1) <;> (try simp only [decide_eq_true_eq] at h2)
  · rw [if_pos (by omega)]; simp only [decide_eq_true_eq]; omega
  · rw [if_pos (by omega)]; simp only [decide_eq_true_eq]; omega
  · rw [if_pos (by omega)]; simp only [decide_eq_true_eq]; omega
  · rw [if_neg (by omega)]
    split at h1 <;> split at h2 <;> (try simp only [decide_eq_true_eq] at h1) <;> (try simp only [decide_eq_true_eq] at h2)
    · rw [if_pos (by omega)]; simp only [decide_eq_true_eq]; omega
    · rw [if_pos (by omega)]; simp only [decide_eq_true_eq]; omega
    · rw [if_pos (by omega)]; simp only [decide_eq_true_eq]; omega
    · rw [if_neg (by omega)]
      split at h1 <;> split at h2 <;> (try simp only [decide_eq_true_eq] at h1) <;> (try simp only [decide_eq_true_eq] at h2)
      · rw [if_pos (by omega)]; simp only [decide_eq_true_eq]; omega
      · rw [if_pos (by omega)]; simp only [decide_eq_true_eq]; omega
      · rw [if_pos (by omega)]; simp only [decide_eq_true_eq]; omega
      · rw [if_neg (by omega)]
        simp only [decide_eq_true_eq]
        exact bl_trans h1 h2
/-- out is what the versions S of the copies that C lists come to: the best of each key, no key twice -/
structure BestS (C : List Fd) (S : List Vr) (out : List EnP) : Prop where
  dist : out.Pairwise (fun a b => a.key ≠ b.key)
  is : ∀ e ∈ out, ∃ v ∈ S, usable C v = true ∧ e = entV C v ∧ ∀ u ∈ S, usable C u = true → u.key = v.key → u = v ∨ aheadB e (entV C u) = true
  all : ∀ v ∈ S, usable C v = true → ∃ e ∈ out, e.key = v.key
theorem vr_ext {u v : Vr} (hk : u.key = v.key) (hg : u.gen = v.gen) (hs : u.size = v.size) (hm : u.sum = v.sum) : u = v := by
  cases u; cases v; simp only at hk hg hs hm; subst hk hg hs hm; rfl
theorem entV_inj {C : List Fd} {u v : Vr} (h : entV C u = entV C v) : u = v := by
  unfold entV at h
  injection h with h1 h2 h3 h4 h5
  exact vr_ext h1 h2 h3 h4
theorem BestS.nil_ (C : List Fd) : BestS C [] [] := ⟨List.Pairwise.nil, (fun e he => by cases he), (fun v hv => by cases hv)⟩
theorem BestS.same {C : List Fd} {S S' : List Vr} {out : List EnP} (h : BestS C S out) (hs : ∀ v, usable C v = true → (v ∈ S ↔ v ∈ S')) : BestS C S' out where
  dist := h.dist
  is e he := by
    obtain ⟨v, hv, hu, rfl, hb⟩ := h.is e he
    exact ⟨v, (hs v hu).mp hv, hu, rfl, fun u hu1 hu2 hk => hb u ((hs u hu2).mpr hu1) hu2 hk⟩
  all v hv hu := h.all v ((hs v hu).mpr hv) hu
theorem BestS.perm {C : List Fd} {S : List Vr} {out out' : List EnP} (h : BestS C S out) (hp : out.Perm out') : BestS C S out' where
  dist := (hp.pairwise_iff (fun {a b} hab => Ne.symm hab)).mp h.dist
  is e he := h.is e (hp.mem_iff.mpr he)
  all v hv hu := by
    obtain ⟨e, he, hk⟩ := h.all v hv hu
    exact ⟨e, hp.mem_iff.mp he, hk⟩
theorem BestS.mem {C : List Fd} {S : List Vr} {a b : List EnP} (ha : BestS C S a) (hb : BestS C S b) {e : EnP} (he : e ∈ a) : e ∈ b := by
  obtain ⟨v, hv, hu, rfl, h1⟩ := ha.is e he
  obtain ⟨e2, he2, hk⟩ := hb.all v hv hu
  obtain ⟨u, hu1, hu2, rfl, h2⟩ := hb.is e2 he2
  have hk : u.key = v.key := hk
  rcases h1 u hu1 hu2 hk with rfl | h1
  · exact he2
  · rcases h2 v hv hu hk.symm with rfl | h2
    · exact he2
    · have := aheadB_asym h1
      rw [h2] at this
      cases this
/-- rising by key -/
def RiseE (L : List EnP) : Prop := L.Pairwise (fun a b => a.key < b.key)
theorem RiseE.uniq {a b : List EnP} (ha : RiseE a) (hb : RiseE b) (h1 : ∀ e ∈ a, e ∈ b) (h2 : ∀ e ∈ b, e ∈ a) : a = b := by
  induction a generalizing b with
  | nil =>
    cases b with
    | nil => rfl
    | cons y b => exact absurd (h2 y (List.mem_cons_self ..)) (by simp)
  | cons x a ih =>
    cases b with
    | nil => exact absurd (h1 x (List.mem_cons_self ..)) (by simp)
    | cons y b =>
      obtain ⟨hx, ha'⟩ := List.pairwise_cons.mp ha
      obtain ⟨hy, hb'⟩ := List.pairwise_cons.mp hb
      have e : x = y := by
        rcases List.mem_cons.mp (h1 x (List.mem_cons_self ..)) with e | hm
        · exact e
        · rcases List.mem_cons.mp (h2 y (List.mem_cons_self ..)) with e | hm2
          · exact e.symm
          · exact absurd (bl_trans (hy x hm) (hx y hm2)) (bl_irrefl _)
      subst e
      have hne : ∀ z ∈ a, z ≠ x := fun z hz e => by subst e; exact bl_irrefl _ (hx z hz)
      have hne2 : ∀ z ∈ b, z ≠ x := fun z hz e => by subst e; exact bl_irrefl _ (hy z hz)
      exact congrArg (x :: ·) (ih ha' hb' (fun e he => (List.mem_cons.mp (h1 e (List.mem_cons_of_mem _ he))).resolve_left (hne e he)) (fun e he => (List.mem_cons.mp (h2 e (List.mem_cons_of_mem _ he))).resolve_left (hne2 e he)))
theorem BestS.uniq {C : List Fd} {S : List Vr} {a b : List EnP} (ha : BestS C S a) (hb : BestS C S b) (h1 : RiseE a) (h2 : RiseE b) : a = b :=
  h1.uniq h2 (fun _ he => ha.mem hb he) (fun _ he => hb.mem ha he)
/-- one that is of no use changes nothing -/
theorem BestS.poor {C : List Fd} {S : List Vr} {out : List EnP} (h : BestS C S out) {v : Vr} (hv : usable C v = false) : BestS C (S ++ [v]) out :=
  h.same (fun u hu => by
    rw [List.mem_append, List.mem_singleton]
    exact ⟨.inl, fun hh => hh.resolve_right (fun e => by subst e; rw [hv] at hu; cases hu)⟩)
/-- the first of its key -/
theorem BestS.new {C : List Fd} {S : List Vr} {out : List EnP} (h : BestS C S out) {v : Vr} (hu : usable C v = true) (hk : ∀ e ∈ out, e.key ≠ v.key) : BestS C (S ++ [v]) (out ++ [entV C v]) where
  dist := by
    rw [List.pairwise_append]
    refine ⟨h.dist, List.pairwise_singleton _ _, fun a ha b hb => ?_⟩
    rw [List.mem_singleton] at hb
    subst hb
    exact hk a ha
  is e he := by
    rcases List.mem_append.mp he with he' | he
    · obtain ⟨u, h1, h2, rfl, h3⟩ := h.is e he'
      refine ⟨u, List.mem_append.mpr (.inl h1), h2, rfl, fun x hx hx2 hxk => ?_⟩
      rcases List.mem_append.mp hx with hx | hx
      · exact h3 x hx hx2 hxk
      · rw [List.mem_singleton] at hx
        subst hx
        exact absurd (show (entV C u).key = x.key from hxk.symm) (hk _ he')
    · rw [List.mem_singleton] at he
      subst he
      refine ⟨v, by simp, hu, rfl, fun x hx hx2 hxk => ?_⟩
      rcases List.mem_append.mp hx with hx | hx
      · obtain ⟨e, he, hek⟩ := h.all x hx hx2
        exact absurd (hek.trans hxk) (hk e he)
      · exact .inl (List.mem_singleton.mp hx)
  all u hu1 hu2 := by
    rcases List.mem_append.mp hu1 with hu1 | hu1
    · obtain ⟨e, he, hek⟩ := h.all u hu1 hu2
      exact ⟨e, List.mem_append.mpr (.inl he), hek⟩
    · rw [List.mem_singleton] at hu1
      subst hu1
      exact ⟨entV C u, by simp, rfl⟩
/-- one of a key that is there: it is not better -/
theorem BestS.stay {C : List Fd} {S : List Vr} {out : List EnP} (h : BestS C S out) {v : Vr} (hu : usable C v = true) {e : EnP} (he : e ∈ out) (hk : e.key = v.key) (hb : aheadB (entV C v) e = false) : BestS C (S ++ [v]) out where
  dist := h.dist
  is e2 he2 := by
    obtain ⟨u, h1, h2, rfl, h3⟩ := h.is e2 he2
    refine ⟨u, List.mem_append.mpr (.inl h1), h2, rfl, fun x hx hx2 hxk => ?_⟩
    rcases List.mem_append.mp hx with hx | hx
    · exact h3 x hx hx2 hxk
    · rw [List.mem_singleton] at hx
      subst hx
      have hee : entV C u = e := by
        by_cases heq : entV C u = e
        · exact heq
        · have hp := h.dist
          rw [List.pairwise_iff_getElem] at hp
          obtain ⟨i, hi, e1⟩ := List.mem_iff_getElem.mp he2
          obtain ⟨j, hj, e2⟩ := List.mem_iff_getElem.mp he
          have hkk : (entV C u).key = e.key := hxk.symm.trans hk.symm
          rcases Nat.lt_trichotomy i j with hij | hij | hij
          · exact absurd (by rw [e1, e2]; exact hkk) (hp i j hi hj hij)
          · subst hij; exact absurd (e1.symm.trans e2) heq
          · exact absurd (by rw [e1, e2]; exact hkk.symm) (hp j i hj hi hij)
      by_cases hxu : x = u
      · exact .inl hxu
      · refine .inr ?_
        rw [hee]
        rcases aheadB_total (entV C x) e (by
          rintro ⟨g1, g2, g3⟩
          exact hxu (vr_ext hxk (g1.trans (congrArg EnP.gen hee.symm)) (g2.trans (congrArg EnP.size hee.symm)) (g3.trans (congrArg EnP.sum hee.symm)))) with h4 | h4
        · rw [hb] at h4; cases h4
        · exact h4
  all u hu1 hu2 := by
    rcases List.mem_append.mp hu1 with hu1 | hu1
    · exact h.all u hu1 hu2
    · rw [List.mem_singleton] at hu1
      subst hu1
      exact ⟨e, he, hk⟩
/-- one of a key that is there: it is better, and takes its place -/
theorem BestS.turn {C : List Fd} {S : List Vr} {out A B : List EnP} {e : EnP} (h : BestS C S (A ++ e :: B)) {v : Vr} (hu : usable C v = true) (hk : e.key = v.key) (hb : aheadB (entV C v) e = true) : BestS C (S ++ [v]) (A ++ entV C v :: B) := by
  have hd := h.dist
  rw [List.pairwise_append, List.pairwise_cons] at hd
  obtain ⟨d1, ⟨d2, d3⟩, d4⟩ := hd
  have hkA : ∀ a ∈ A, a.key ≠ v.key := fun a ha => by rw [← hk]; exact d4 a ha e (by simp)
  have hkB : ∀ b ∈ B, b.key ≠ v.key := fun b hb2 hh => d2 b hb2 (hk.trans hh.symm)
  have hoth : ∀ e2, e2 ∈ A ∨ e2 ∈ B → ∃ u ∈ S ++ [v], usable C u = true ∧ e2 = entV C u ∧ ∀ x ∈ S ++ [v], usable C x = true → x.key = u.key → x = u ∨ aheadB e2 (entV C x) = true := by
    intro e2 he2
    have hm : e2 ∈ A ++ e :: B := by
      rcases he2 with he2 | he2
      · exact List.mem_append.mpr (.inl he2)
      · exact List.mem_append.mpr (.inr (List.mem_cons_of_mem _ he2))
    have hkk : e2.key ≠ v.key := by
      rcases he2 with he2 | he2
      · exact hkA _ he2
      · exact hkB _ he2
    obtain ⟨u, h1, h2, rfl, h3⟩ := h.is e2 hm
    refine ⟨u, List.mem_append.mpr (.inl h1), h2, rfl, fun x hx hx2 hxk => ?_⟩
    rcases List.mem_append.mp hx with hx | hx
    · exact h3 x hx hx2 hxk
    · rw [List.mem_singleton] at hx
      subst hx
      exact absurd hxk.symm hkk
  refine ⟨?_, ?_, ?_⟩
  · rw [List.pairwise_append, List.pairwise_cons]
    refine ⟨d1, ⟨fun b hb2 hh => hkB b hb2 hh.symm, d3⟩, fun a ha b hb2 => ?_⟩
    rcases List.mem_cons.mp hb2 with rfl | hb2
    · exact hkA a ha
    · exact d4 a ha b (List.mem_cons_of_mem _ hb2)
  · intro e2 he2
    rcases List.mem_append.mp he2 with he2 | he2
    · exact hoth e2 (.inl he2)
    · rcases List.mem_cons.mp he2 with rfl | he2
      · refine ⟨v, by simp, hu, rfl, fun x hx hx2 hxk => ?_⟩
        rcases List.mem_append.mp hx with hx | hx
        · obtain ⟨u, h1, h2, h3, h4⟩ := h.is e (by simp)
          have hxu : x.key = u.key := by rw [hxk, ← hk, h3]; rfl
          rcases h4 x hx hx2 hxu with rfl | h5
          · rw [← h3]; exact .inr hb
          · exact .inr (aheadB_trans hb h5)
        · exact .inl (List.mem_singleton.mp hx)
      · exact hoth e2 (.inr he2)
  · intro u hu1 hu2
    rcases List.mem_append.mp hu1 with hu1 | hu1
    · obtain ⟨e2, he2, hek⟩ := h.all u hu1 hu2
      rcases List.mem_append.mp he2 with he2 | he2
      · exact ⟨e2, List.mem_append.mpr (.inl he2), hek⟩
      · rcases List.mem_cons.mp he2 with rfl | he2
        · exact ⟨entV C v, by simp, hk.symm.trans hek⟩
        · exact ⟨e2, by simp [he2], hek⟩
    · rw [List.mem_singleton] at hu1
      subst hu1
      exact ⟨entV C u, by simp, rfl⟩
/-- one that was met already changes nothing -/
theorem BestS.again {C : List Fd} {S : List Vr} {out : List EnP} (h : BestS C S out) {v : Vr} (hv : v ∈ S) : BestS C (S ++ [v]) out :=
  h.same (fun u hu => by
    rw [List.mem_append, List.mem_singleton]
    exact ⟨.inl, fun hh => hh.elim id (fun e => by subst e; exact hv)⟩)
/-- the versions of which shards are found, in their order -/
def vers (C : List Fd) : List Vr := (C.filter (fun f => decide (f.r.kind = 2))).map (fun f => f.r.vr)
theorem mem_vers {C : List Fd} {v : Vr} : v ∈ vers C ↔ ∃ f ∈ C, f.r.kind = 2 ∧ f.r.vr = v := by
  unfold vers
  rw [List.mem_map]
  constructor
  · rintro ⟨f, hf, e⟩
    obtain ⟨h1, h2⟩ := List.mem_filter.mp hf
    exact ⟨f, h1, by simpa using h2, e⟩
  · rintro ⟨f, h1, h2, e⟩
    exact ⟨f, List.mem_filter.mpr ⟨h1, by simpa using h2⟩, e⟩
theorem vers_snoc (C : List Fd) (f : Fd) : vers (C ++ [f]) = vers C ++ (if f.r.kind = 2 then [f.r.vr] else []) := by
  unfold vers
  rw [List.filter_append, List.map_append]
  congr 1
  by_cases h : f.r.kind = 2
  · rw [if_pos h, List.filter_cons_of_pos (by simpa using h)]; rfl
  · rw [if_neg h, List.filter_cons_of_neg (by simpa using h)]; rfl
theorem vers_app (C D : List Fd) : vers (C ++ D) = vers C ++ vers D := by unfold vers; rw [List.filter_append, List.map_append]
/-- what Best answers: the entries, rising by key -/
def IsOut (C : List Fd) (out : List EnP) : Prop := RiseE out ∧ BestS C (vers C) out
theorem BestS.congr {C C' : List Fd} {S : List Vr} {out : List EnP} (h : BestS C S out) (hp : ∀ v, placesOf C' v = placesOf C v) (hd : ∀ v, deadB C' v = deadB C v) : BestS C' S out := by
  have he : ∀ v, entV C' v = entV C v := fun v => by unfold entV; rw [hp]
  have hu : ∀ v, usable C' v = usable C v := fun v => by unfold usable; rw [hp, hd]
  refine ⟨h.dist, fun e hm => ?_, fun v hv h1 => h.all v hv (by rw [← hu]; exact h1)⟩
  obtain ⟨v, h1, h2, h3, h4⟩ := h.is e hm
  exact ⟨v, h1, by rw [hu]; exact h2, by rw [he]; exact h3, fun u hu1 hu2 hk => by rw [he]; exact h4 u hu1 (by rw [← hu]; exact hu2) hk⟩
theorem IsOut.uniq {C : List Fd} {a b : List EnP} (ha : IsOut C a) (hb : IsOut C b) : a = b := ha.2.uniq hb.2 ha.1 hb.1
theorem placesOf_twice (C : List Fd) (v : Vr) : placesOf (C ++ C) v = placesOf C v := by
  unfold placesOf
  congr 1
  funext i
  unfold placeOf
  rw [List.find?_append]
  cases C.find? (fun f => isSh f.r v i) <;> rfl
theorem deadB_app (C D : List Fd) (v : Vr) : deadB (C ++ D) v = (deadB C v || deadB D v) := List.any_append
theorem mostG_app (C D : List Fd) : mostG (C ++ D) = D.foldl (fun m f => max m f.r.gen) (mostG C) := by unfold mostG; rw [List.foldl_append]
theorem foldG_ge (C : List Fd) (z : Int) : z ≤ C.foldl (fun m f => max m f.r.gen) z ∧ ∀ f ∈ C, f.r.gen ≤ C.foldl (fun m f => max m f.r.gen) z := by
  induction C generalizing z with
  | nil => exact ⟨Int.le_refl _, fun f hf => by cases hf⟩
  | cons x C ih =>
    obtain ⟨h1, h2⟩ := ih (max z x.r.gen)
    refine ⟨by simp only [List.foldl_cons]; omega, fun f hf => ?_⟩
    rcases List.mem_cons.mp hf with rfl | hf
    · simp only [List.foldl_cons]; omega
    · exact h2 f hf
theorem foldG_le (C : List Fd) (z m : Int) (hz : z ≤ m) (h : ∀ f ∈ C, f.r.gen ≤ m) : C.foldl (fun m f => max m f.r.gen) z ≤ m := by
  induction C generalizing z with
  | nil => exact hz
  | cons x C ih => exact ih (max z x.r.gen) (by have := h x (by simp); omega) (fun f hf => h f (List.mem_cons_of_mem _ hf))
theorem mostG_nn (C : List Fd) : 0 ≤ mostG C := (foldG_ge C 0).1
theorem mostG_ge {C : List Fd} {f : Fd} (h : f ∈ C) : f.r.gen ≤ mostG C := (foldG_ge C 0).2 f h
theorem mostG_snoc (C : List Fd) (f : Fd) : mostG (C ++ [f]) = max (mostG C) f.r.gen := by rw [mostG_app]; rfl
theorem mostG_twice (C : List Fd) : mostG (C ++ C) = mostG C := by
  rw [mostG_app]
  have h1 := (foldG_ge C (mostG C)).1
  have h2 := foldG_le C (mostG C) (mostG C) (Int.le_refl _) (fun f hf => mostG_ge hf)
  omega
theorem IsOut.twice {C : List Fd} {a : List EnP} (h : IsOut C a) : IsOut (C ++ C) a :=
  ⟨h.1, (h.2.same (fun v _ => by rw [vers_app, List.mem_append]; exact ⟨.inl, fun hh => hh.elim id id⟩)).congr (placesOf_twice C) (fun v => by rw [deadB_app, Bool.or_self])⟩
/-- a tomb of the greatest Gen, at any place -/
theorem mostG_mid (A B : List Fd) (t : Fd) (ht : t.r.gen = mostG (A ++ B)) : mostG (A ++ t :: B) = mostG (A ++ B) := by
  have h1 := mostG_ge (C := A ++ t :: B) (f := t) (by simp)
  have h2 : mostG (A ++ t :: B) ≤ mostG (A ++ B) := foldG_le _ 0 _ (mostG_nn _) (fun f hf => by
    rcases List.mem_append.mp hf with hf | hf
    · exact mostG_ge (List.mem_append.mpr (.inl hf))
    · rcases List.mem_cons.mp hf with rfl | hf
      · omega
      · exact mostG_ge (List.mem_append.mpr (.inr hf)))
  omega
theorem placesOf_mid (A B : List Fd) (t : Fd) (ht : t.r.kind = 3) (v : Vr) : placesOf (A ++ t :: B) v = placesOf (A ++ B) v := by
  unfold placesOf
  congr 1
  funext i
  unfold placeOf
  rw [List.find?_append, List.find?_append, List.find?_cons_of_neg (by unfold isSh; rw [ht]; simp)]
theorem deadB_mid (A B : List Fd) (t : Fd) (v : Vr) : deadB (A ++ t :: B) v = (deadB (A ++ B) v || (decide (t.r.kind = 3) && decide (t.r.key = v.key) && decide (v.gen ≤ t.r.gen))) := by
  unfold deadB
  rw [List.any_append, List.any_append, List.any_cons]
  generalize A.any _ = x
  generalize B.any _ = y
  generalize (decide (t.r.kind = 3) && decide (t.r.key = v.key) && decide (v.gen ≤ t.r.gen)) = z
  cases x <;> cases y <;> cases z <;> rfl
theorem vers_mid (A B : List Fd) (t : Fd) (ht : t.r.kind = 3) : vers (A ++ t :: B) = vers (A ++ B) := by
  unfold vers
  rw [List.filter_append, List.filter_append, List.filter_cons_of_neg (by rw [ht]; simp)]
theorem vers_gen {C : List Fd} {v : Vr} (h : v ∈ vers C) : v.gen ≤ mostG C := by
  obtain ⟨f, h1, -, rfl⟩ := mem_vers.mp h
  exact mostG_ge h1
theorem IsOut.gone {A B : List Fd} {a : List EnP} (h : IsOut (A ++ B) a) {t : Fd} (ht : t.r.kind = 3) (hg : t.r.gen = mostG (A ++ B)) : IsOut (A ++ t :: B) (a.filter (fun e => decide (e.key ≠ t.r.key))) := by
  have hent : ∀ v, entV (A ++ t :: B) v = entV (A ++ B) v := fun v => by unfold entV; rw [placesOf_mid A B t ht]
  have hus : ∀ v ∈ vers (A ++ B), usable (A ++ t :: B) v = (usable (A ++ B) v && decide (v.key ≠ t.r.key)) := fun v hv => by
    unfold usable
    rw [placesOf_mid A B t ht, deadB_mid, decide_eq_true ht, decide_eq_true (show v.gen ≤ t.r.gen by rw [hg]; exact vers_gen hv)]
    generalize deadB (A ++ B) v = x
    generalize decide (8 ≤ fewestL (placesOf (A ++ B) v)) = y
    by_cases hk : v.key = t.r.key
    · rw [decide_eq_true hk.symm]; simp [hk]
    · rw [decide_eq_false (Ne.symm hk)]; simp [hk]
  refine ⟨List.Pairwise.filter _ h.1, ⟨List.Pairwise.filter _ h.2.dist, fun e he => ?_, fun v hv hu => ?_⟩⟩
  · obtain ⟨h1, h2⟩ := List.mem_filter.mp he
    obtain ⟨v, hv, hu, rfl, hb⟩ := h.2.is e h1
    have h2 : v.key ≠ t.r.key := of_decide_eq_true h2
    rw [vers_mid A B t ht]
    refine ⟨v, hv, by rw [hus v hv, hu, Bool.true_and, decide_eq_true_iff]; exact h2, (hent v).symm, fun u hu1 hu2 hk => ?_⟩
    rw [hus u hu1, Bool.and_eq_true] at hu2
    rw [hent]
    exact hb u hu1 hu2.1 hk
  · rw [vers_mid A B t ht] at hv
    rw [hus v hv, Bool.and_eq_true, decide_eq_true_iff] at hu
    obtain ⟨e, he, hk⟩ := h.2.all v hv hu.1
    exact ⟨e, List.mem_filter.mpr ⟨he, by rw [decide_eq_true_iff, hk]; exact hu.2⟩, hk⟩
def chunkOf (l : List (Int × Int)) (g : Nat) : List (Int × Int) := (l.drop (10 * g)).take 10
theorem foldmin_le (f : Nat → Nat) (L : List Nat) (z n : Nat) : n ≤ L.foldl (fun m g => min m (f g)) z ↔ n ≤ z ∧ ∀ g ∈ L, n ≤ f g := by
  induction L generalizing z with
  | nil => simp
  | cons x L ih =>
    rw [List.foldl_cons, ih]
    constructor
    · rintro ⟨h1, h2⟩
      refine ⟨by omega, fun g hg => ?_⟩
      rcases List.mem_cons.mp hg with rfl | hg
      · omega
      · exact h2 g hg
    · rintro ⟨h1, h2⟩
      have := h2 x (by simp)
      exact ⟨by omega, fun g hg => h2 g (List.mem_cons_of_mem _ hg)⟩
theorem fewestL_ge (l : List (Int × Int)) (n : Nat) : n ≤ fewestL l ↔ n ≤ 10 ∧ ∀ g < l.length / 10, n ≤ present (chunkOf l g) := by
  unfold fewestL
  rw [foldmin_le (fun g => present ((l.drop (10 * g)).take 10))]
  simp only [List.mem_range]
  rfl
theorem fewestL_step (l : List (Int × Int)) (k : Nat) : (List.range (k + 1)).foldl (fun m g => min m (present ((l.drop (10 * g)).take 10))) 10 = min ((List.range k).foldl (fun m g => min m (present ((l.drop (10 * g)).take 10))) 10) (present (chunkOf l k)) := by
  rw [List.range_succ, List.foldl_append]; rfl
theorem present_le (l : List (Int × Int)) : present l ≤ l.length := List.length_filter_le _ _
/-- what a record that may be is like -/
theorem good_gen {r : Rc} (h : goodB r = true) : 0 ≤ r.gen ∧ r.gen ≤ 1099511627776 := by
  unfold goodB at h
  split at h
  · rw [Bool.and_eq_true] at h
    have : r = bare1 r := of_decide_eq_true h.2
    have : r.gen = 0 := by rw [this]; rfl
    omega
  · split at h
    · rw [Bool.and_eq_true] at h
      have := h.1
      unfold nameB inB at this
      simp at this
      omega
    · split at h
      · rw [Bool.and_eq_true, Bool.and_eq_true] at h
        have := h.1.2
        unfold nameB inB at this
        simp at this
        omega
      · cases h
theorem good_kind {r : Rc} (h : goodB r = true) : r.kind = 1 ∨ r.kind = 2 ∨ r.kind = 3 := by
  unfold goodB at h
  split at h
  · exact .inl (by assumption)
  · split at h
    · exact .inr (.inr (by assumption))
    · split at h
      · exact .inr (.inl (by assumption))
      · cases h
theorem good_shard {r : Rc} (h : goodB r = true) (hk : r.kind = 2) : 0 ≤ r.size ∧ r.size ≤ 512 ∧ r.groups = groupsOf r.size ∧ 0 ≤ r.group ∧ r.group < r.groups ∧ 0 ≤ r.index ∧ r.index ≤ 9 ∧ 1 ≤ r.groups ∧ r.groups ≤ 4 := by
  unfold goodB at h
  rw [if_neg (by omega), if_neg (by omega), if_pos hk, Bool.and_eq_true] at h
  have h := h.2
  unfold shardB inB at h
  simp at h
  obtain ⟨⟨⟨⟨⟨⟨h1, h2⟩, h3⟩, h4, h5⟩, h6, h7⟩, -⟩, -⟩ := h
  have hg : groupsOf r.size = max 1 ((r.size + 127) / 128) := by unfold groupsOf inB; rw [if_pos (by simp; omega)]
  omega
theorem cnt_iff (f : Fd) : cnt f = true ↔ (0 ≤ f.cart ∧ f.cart ≤ 31) ∧ (0 ≤ f.pos ∧ f.pos ≤ 1023) ∧ goodB f.r = true := by
  unfold cnt inB; simp [and_assoc]
theorem cnt_now {f : Fd} (h : cnt f = true) : (f.cart, f.pos) ≠ nowP := by
  have := (cnt_iff f).mp h
  unfold nowP
  intro e
  injection e with e1 e2
  omega
/-- where a place is not nowhere a shard is -/
theorem placeOf_some {C : List Fd} {v : Vr} {i : Nat} (h : placeOf C v i ≠ nowP) : ∃ f ∈ C, isSh f.r v i = true ∧ (f.cart, f.pos) = placeOf C v i := by
  unfold placeOf at h ⊢
  cases hf : C.find? (fun f => isSh f.r v i) with
  | none => rw [hf] at h; exact absurd rfl h
  | some f => exact ⟨f, List.mem_of_find?_eq_some hf, by have h5 := List.find?_some hf; exact h5, rfl⟩
theorem placeOf_now {C : List Fd} (hC : ∀ f ∈ C, cnt f = true) {v : Vr} {i : Nat} (h : placeOf C v i = nowP) : ∀ f ∈ C, isSh f.r v i = false := by
  unfold placeOf at h
  cases hf : C.find? (fun f => isSh f.r v i) with
  | none => exact fun f hm => by have := List.find?_eq_none.mp hf f hm; simpa using this
  | some f => rw [hf] at h; exact absurd h (cnt_now (hC f (List.mem_of_find?_eq_some hf)))
theorem placeOf_snoc (C : List Fd) (f : Fd) (v : Vr) (i : Nat) : placeOf (C ++ [f]) v i = match C.find? (fun f => isSh f.r v i) with | some g => (g.cart, g.pos) | none => if isSh f.r v i = true then (f.cart, f.pos) else nowP := by
  unfold placeOf
  rw [List.find?_append]
  cases C.find? (fun f => isSh f.r v i) with
  | some g => rfl
  | none =>
    by_cases h : isSh f.r v i = true
    · rw [if_pos h]; simp [h]
    · rw [if_neg h]; simp [h]
theorem placesOf_len (C : List Fd) (v : Vr) : (placesOf C v).length = nSlots v := by unfold placesOf; simp
theorem placesOf_at (C : List Fd) (v : Vr) {i : Nat} (h : i < nSlots v) : (placesOf C v)[i]? = some (placeOf C v i) := by
  unfold placesOf
  rw [List.getElem?_map, List.getElem?_range h]; rfl
theorem sh_slot {r : Rc} {v : Vr} {i : Nat} (hg : goodB r = true) (h : isSh r v i = true) : r.group = ((i / 10 : Nat) : Int) ∧ r.index = ((i % 10 : Nat) : Int) ∧ i < nSlots v ∧ r.kind = 2 ∧ r.vr = v := by
  unfold isSh at h
  simp at h
  obtain ⟨⟨h1, h2⟩, h3⟩ := h
  have h4 := good_shard hg h1
  have hs : groupsOf v.size = r.groups := by rw [h4.2.2.1, ← h2]; rfl
  refine ⟨by omega, by omega, ?_, h1, h2⟩
  unfold nSlots
  rw [hs]
  omega
/-- of counted records that are shards, where its own place lies -/
def slotOf (r : Rc) : Nat := (10 * r.group + r.index).toNat
theorem isSh_own {r : Rc} (hg : goodB r = true) (hk : r.kind = 2) : isSh r r.vr (slotOf r) = true := by
  have h4 := good_shard hg hk
  unfold isSh slotOf
  simp
  refine ⟨hk, ?_⟩
  omega
theorem isSh_iff {r : Rc} (hg : goodB r = true) (hk : r.kind = 2) (v : Vr) (i : Nat) : isSh r v i = (decide (r.vr = v) && decide (slotOf r = i)) := by
  have h4 := good_shard hg hk
  unfold isSh slotOf
  rw [decide_eq_true hk, Bool.true_and]
  congr 1
  rw [Bool.eq_iff_iff, decide_eq_true_iff, decide_eq_true_iff]
  omega
/-- a shard of a copy whose places rise -/
def shardAt (key : By) (gen size : Int) (sum data : By) (frm : Int) (s : Nat) : Fd :=
  ⟨((s % 10 : Nat) : Int), frm + ((s / 10 : Nat) : Int), ⟨2, 0, key, gen, ((s / 10 : Nat) : Int), groupsOf size, ((s % 10 : Nat) : Int), size, sum, data⟩⟩
def keptL (key : By) (gen size : Int) (sum data : By) (frm : Int) (keep : Nat → Bool) (n : Nat) : List Fd := ((List.range n).filter keep).map (shardAt key gen size sum data frm)
theorem find_range (n : Nat) (keep : Nat → Bool) (i : Nat) : ((List.range n).filter keep).find? (fun s => decide (s = i)) = if i < n ∧ keep i = true then some i else none := by
  split
  · rename_i h
    have hm : i ∈ (List.range n).filter keep := List.mem_filter.mpr ⟨List.mem_range.mpr h.1, h.2⟩
    cases hf : ((List.range n).filter keep).find? (fun s => decide (s = i)) with
    | none => have := List.find?_eq_none.mp hf i hm; simp at this
    | some j => have h5 := List.find?_some hf; simp at h5; rw [h5]
  · rename_i h
    rw [List.find?_eq_none]
    intro x hx
    obtain ⟨h1, h2⟩ := List.mem_filter.mp hx
    simp only [decide_eq_true_eq]
    rintro rfl
    exact h ⟨List.mem_range.mp h1, h2⟩
theorem isSh_at (key : By) (gen size : Int) (sum data : By) (frm : Int) (s : Nat) (i : Nat) : isSh (shardAt key gen size sum data frm s).r ⟨key, gen, size, sum⟩ i = decide (s = i) := by
  unfold isSh shardAt Rc.vr
  simp only [decide_true, Bool.true_and]
  rw [Bool.eq_iff_iff, decide_eq_true_iff, decide_eq_true_iff]
  omega
theorem isSh_other {r : Rc} {v : Vr} (h : r.vr ≠ v) (i : Nat) : isSh r v i = false := by
  unfold isSh; rw [decide_eq_false h]; simp
theorem placeOf_kept (key : By) (gen size : Int) (sum data : By) (frm : Int) (keep : Nat → Bool) (n i : Nat) : placeOf (keptL key gen size sum data frm keep n) ⟨key, gen, size, sum⟩ i = if i < n ∧ keep i = true then (((i % 10 : Nat) : Int), frm + ((i / 10 : Nat) : Int)) else nowP := by
  unfold placeOf keptL
  rw [List.find?_map]
  have e : ((fun f : Fd => isSh f.r ⟨key, gen, size, sum⟩ i) ∘ shardAt key gen size sum data frm) = fun s => decide (s = i) := funext (fun s => isSh_at key gen size sum data frm s i)
  rw [e, find_range]
  by_cases hh : i < n ∧ keep i = true
  · rw [if_pos hh, if_pos hh]; rfl
  · rw [if_neg hh, if_neg hh]; rfl
theorem placeOf_app_r {C D : List Fd} {v : Vr} (h : ∀ f ∈ C, f.r.vr ≠ v) (i : Nat) : placeOf (C ++ D) v i = placeOf D v i := by
  unfold placeOf
  rw [List.find?_append, List.find?_eq_none.mpr (fun f hf => by rw [isSh_other (h f hf)]; simp)]
  rfl
theorem placeOf_app_l {C D : List Fd} {v : Vr} (h : ∀ f ∈ D, f.r.vr ≠ v) (i : Nat) : placeOf (C ++ D) v i = placeOf C v i := by
  unfold placeOf
  have e : D.find? (fun f => isSh f.r v i) = none := List.find?_eq_none.mpr (fun f hf => by rw [isSh_other (h f hf)]; simp)
  rw [List.find?_append, e, Option.or_none]
theorem kept_mem {key : By} {gen size : Int} {sum data : By} {frm : Int} {keep : Nat → Bool} {n : Nat} {f : Fd} (h : f ∈ keptL key gen size sum data frm keep n) : ∃ s, s < n ∧ keep s = true ∧ f = shardAt key gen size sum data frm s := by
  unfold keptL at h
  obtain ⟨s, hs, rfl⟩ := List.mem_map.mp h
  obtain ⟨h1, h2⟩ := List.mem_filter.mp hs
  exact ⟨s, List.mem_range.mp h1, h2, rfl⟩
theorem chunk_at (f : Nat → Int × Int) (n g : Nat) (h : 10 * g + 10 ≤ n) : chunkOf ((List.range n).map f) g = (List.range 10).map (fun j => f (10 * g + j)) := by
  unfold chunkOf
  apply List.ext_getElem?
  intro j
  rw [List.getElem?_take]
  by_cases hj : j < 10
  · rw [if_pos hj, List.getElem?_drop, List.getElem?_map, List.getElem?_map, List.getElem?_range (by omega), List.getElem?_range hj]; rfl
  · rw [if_neg hj, List.getElem?_eq_none (by simp; omega)]
theorem present_map (L : List Nat) (f : Nat → Int × Int) (b : Nat → Bool) (h : ∀ j ∈ L, decide (f j ≠ nowP) = b j) : present (L.map f) = (L.filter b).length := by
  unfold present
  rw [List.filter_map, List.length_map]
  congr 1
  exact List.filter_congr (fun j hj => by simp only [Function.comp_apply]; exact h j hj)
theorem IsOut.gen_le {C : List Fd} {out : List EnP} (h : IsOut C out) {e : EnP} (he : e ∈ out) : e.gen ≤ mostG C := by
  obtain ⟨v, hv, -, rfl, -⟩ := h.2.is e he
  exact vers_gen hv
theorem vers_size {C : List Fd} (hC : ∀ f ∈ C, cnt f = true) {v : Vr} (hv : v ∈ vers C) : 0 ≤ v.size ∧ v.size ≤ 512 ∧ 1 ≤ groupsOf v.size ∧ groupsOf v.size ≤ 4 := by
  obtain ⟨f, hf, hk, rfl⟩ := mem_vers.mp hv
  have h1 := good_shard ((cnt_iff f).mp (hC f hf)).2.2 hk
  have e : groupsOf f.r.vr.size = f.r.groups := h1.2.2.1.symm
  rw [e]
  exact ⟨h1.1, h1.2.1, h1.2.2.2.2.2.2.2⟩
/-- each entry as ScanHolds asks -/
theorem IsOut.holds {C : List Fd} (hC : ∀ f ∈ C, cnt f = true) {out : List EnP} (h : IsOut C out) {e : EnP} (he : e ∈ out) :
    (∃ G : Nat, 1 ≤ G ∧ G ≤ 4 ∧ e.places.length = 10 * G ∧ ∀ g < G, 8 ≤ present (chunkOf e.places g)) ∧ (∀ f ∈ C, f.r.kind = 3 → f.r.key = e.key → f.r.gen < e.gen) ∧
    (∀ (s : Nat) (p : Int × Int), e.places[s]? = some p → p ≠ nowP → ∃ f ∈ C, f.r.kind = 2 ∧ f.r.key = e.key ∧ f.r.gen = e.gen ∧ f.r.size = e.size ∧ f.r.sum = e.sum ∧ f.r.group = ((s / 10 : Nat) : Int) ∧ f.r.index = ((s % 10 : Nat) : Int) ∧ (f.cart, f.pos) = p) := by
  obtain ⟨v, hv, hu, rfl, -⟩ := h.2.is e he
  have h1 := vers_size hC hv
  unfold usable at hu
  rw [Bool.and_eq_true, decide_eq_true_iff, Bool.not_eq_true'] at hu
  refine ⟨⟨(groupsOf v.size).toNat, by omega, by omega, placesOf_len C v, fun g hg => ((fewestL_ge _ 8).mp hu.1).2 g (by rw [placesOf_len]; unfold nSlots; omega)⟩, fun f hf hk hkey => ?_, fun s p hp hne => ?_⟩
  · have h2 := hu.2
    unfold deadB at h2
    rw [List.any_eq_false] at h2
    have h3 := h2 f hf
    rw [decide_eq_true hk, decide_eq_true (show f.r.key = v.key from hkey)] at h3
    simp at h3
    exact h3
  · have hs : s < nSlots v := by have := (List.getElem?_eq_some_iff.mp hp).1; rw [show (entV C v).places = placesOf C v from rfl, placesOf_len] at this; exact this
    rw [show (entV C v).places = placesOf C v from rfl, placesOf_at C v hs] at hp
    injection hp with hp
    subst hp
    obtain ⟨f, hf, h2, h3⟩ := placeOf_some hne
    obtain ⟨g1, g2, -, g4, g5⟩ := sh_slot ((cnt_iff f).mp (hC f hf)).2.2 h2
    exact ⟨f, hf, g4, congrArg Vr.key g5, congrArg Vr.gen g5, congrArg Vr.size g5, congrArg Vr.sum g5, g1, g2, h3⟩
/-- where one version alone is of use -/
theorem IsOut.one {C : List Fd} {out : List EnP} (h : IsOut C out) {v : Vr} (hv : v ∈ vers C) (hu : usable C v = true) (hk : ∀ u ∈ vers C, usable C u = true → u = v ∨ (u.key = v.key ∧ aheadB (entV C v) (entV C u) = true)) : out = [entV C v] := by
  refine h.uniq ⟨List.pairwise_singleton _ _, ⟨List.pairwise_singleton _ _, fun e he => ?_, fun u hu1 hu2 => ?_⟩⟩
  · rw [List.mem_singleton] at he
    subst he
    exact ⟨v, hv, hu, rfl, fun u hu1 hu2 _ => (hk u hu1 hu2).imp id (·.2)⟩
  · refine ⟨entV C v, by simp, ?_⟩
    rcases hk u hu1 hu2 with rfl | h2
    · rfl
    · exact h2.1.symm
theorem IsOut.none_ {C : List Fd} {out : List EnP} (h : IsOut C out) (hk : ∀ u ∈ vers C, usable C u = false) : out = [] := by
  refine h.uniq ⟨List.Pairwise.nil, ⟨List.Pairwise.nil, (fun e he => by cases he), fun u hu1 hu2 => ?_⟩⟩
  rw [hk u hu1] at hu2
  cases hu2
end Go.Proofs.Ytiliggleplpjbaa
