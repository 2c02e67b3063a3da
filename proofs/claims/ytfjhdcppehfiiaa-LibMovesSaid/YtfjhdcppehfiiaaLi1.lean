/- lib: the whole library: its drives, its cartridges, each apart from the others. -/
import Derived.Test.YtfjhdcppehfiiaaLb13
namespace Go.Proofs.Ytfjhdcppehfiiaa
set_option linter.unusedVariables false
set_option linter.unusedSimpArgs false
open Go Go.RowKit
/-- the drives, nC cartridges being there, behind at most T acts -/
def DOk (nC T : Nat) (D : List Dr) : Prop :=
  (∀ d ∈ D, (d.broken = true → d.cart = -1 ∧ d.pos = 0) ∧ -1 ≤ d.cart ∧ d.cart < nC ∧ (d.cart = -1 → d.pos = 0) ∧ 0 ≤ d.pos ∧ d.pos ≤ 1024 + T) ∧
  ∀ (i j : Nat) (d e : Dr), i ≠ j → D[i]? = some d → D[j]? = some e → d.cart = e.cart → d.cart = -1
theorem DOk.more {nC nC' T T' : Nat} {D : List Dr} (h : DOk nC T D) (h1 : nC ≤ nC') (h2 : T ≤ T') : DOk nC' T' D :=
  ⟨fun d hd => by obtain ⟨a, b, c, e, f, i⟩ := h.1 d hd; exact ⟨a, b, by omega, e, f, by omega⟩, h.2⟩
theorem DOk.set {nC T j : Nat} {D : List Dr} {d d' : Dr} (h : DOk nC T D) (hj : D[j]? = some d) (h1 : (d'.broken = true → d'.cart = -1 ∧ d'.pos = 0) ∧ -1 ≤ d'.cart ∧ d'.cart < nC ∧ (d'.cart = -1 → d'.pos = 0) ∧ 0 ≤ d'.pos ∧ d'.pos ≤ 1024 + T) (h2 : d'.cart = -1 ∨ d'.cart = d.cart ∨ NoHold D d'.cart) : DOk nC T (D.set j d') := by
  have hjl := (List.getElem?_eq_some_iff.mp hj).1
  have key : ∀ (i : Nat) (e : Dr), i ≠ j → D[i]? = some e → e.cart = d'.cart → d'.cart = -1 := fun i e hi he hc => by
    rcases h2 with h2 | h2 | h2
    · exact h2
    · have := h.2 i j e d hi he hj (by rw [hc, h2])
      rw [← hc]; exact this
    · exact absurd hc (h2 e (List.mem_of_getElem? he))
  refine ⟨fun e he => ?_, fun i k e f hik he hf hc => ?_⟩
  · rcases List.mem_or_eq_of_mem_set he with he | rfl
    · exact h.1 e he
    · exact h1
  · by_cases hi : i = j
    · subst hi
      rw [List.getElem?_set_self hjl] at he
      injection he with he
      subst he
      rw [List.getElem?_set_ne hik] at hf
      exact key k f (fun e => hik e.symm) hf hc.symm
    · rw [List.getElem?_set_ne (fun e => hi e.symm)] at he
      by_cases hk : k = j
      · subst hk
        rw [List.getElem?_set_self hjl] at hf
        injection hf with hf
        subst hf
        rw [hc]
        exact key i e hi he hc
      · rw [List.getElem?_set_ne (fun e => hk e.symm)] at hf
        exact h.2 i k e f hik he hf hc
theorem DOk.new_ (nC nd : Nat) : DOk nC 0 (newD nd) := by
  unfold newD
  refine ⟨fun d hd => ?_, fun i j d e _ hi _ _ => ?_⟩
  · obtain ⟨-, rfl⟩ := List.mem_replicate.mp hd
    exact ⟨fun h => (by cases h), by decide, by show (-1 : Int) < nC; omega, fun _ => rfl, by decide, by show (0 : Int) ≤ 1024 + ((0 : Nat) : Int); omega⟩
  · have := List.mem_of_getElem? hi
    obtain ⟨-, rfl⟩ := List.mem_replicate.mp this
    rfl
/-- the library in memory -/
structure Li (w : World) (lo g : Nat) (C : List Nat) (SS : List CS) (D : List Dr) (calls : Nat) : Prop where
  lb : ∃ vc vd, Lb w lo g vc vd C D calls
  len : SS.length = C.length
  ct : ∀ (i b : Nat) (s : CS), C[i]? = some b → SS[i]? = some s → ∃ l hi, lo ≤ l ∧ Ct w l hi b s
  ap : ∀ (i j b b' : Nat), i ≠ j → C[i]? = some b → C[j]? = some b' → b ≠ b' ∧ ∀ k, RowOf w b k → ¬ RowOf w b' k
theorem Ct.blk {w : World} {lo hi g : Nat} {s : CS} (h : Ct w lo hi g s) : ∃ v, w.heap[g]? = some (.cells #[v, .int .i64 s.most, .bool s.lost] 64 (0, 0)) ∧ ∀ k, v.ownBlock = some k → (∃ cs, w.heap[k]? = some (.cells cs 66 (0, 0))) ∧ lo ≤ k := by
  obtain ⟨v, h1, h2, h3, h4, ⟨xs, r1, r2, r3⟩, h6⟩ := h
  refine ⟨v, h1, fun k hk => ⟨?_, (r1.lt k hk).1⟩⟩
  rcases r1.2 with ⟨rfl, -⟩ | ⟨g', cap, cur, rfl, hb, hh, -⟩
  · cases hk
  · injection hk with hk
    subst hk
    exact ⟨_, hh⟩
theorem RowOf.of_eq {w w' : World} {b k : Nat} (he : w'.heap[b]? = w.heap[b]?) (h : RowOf w' b k) : RowOf w b k := by
  obtain ⟨v, a, c, h1, h2⟩ := h
  exact ⟨v, a, c, by rw [← he]; exact h1, h2⟩
theorem RowOf.lt {w : World} {lo hi b k : Nat} {s : CS} (h : RowOf w b k) (hc : Ct w lo hi b s) : k < w.heap.size ∧ lo ≤ k := by
  obtain ⟨v, a, c, h1, h2⟩ := h
  obtain ⟨v', h3, h4⟩ := hc.blk
  rw [h1] at h3
  injection h3 with h3
  injection h3 with h3
  have h5 : v = v' := by
    have := congrArg (fun x : Array Value => x[0]?) h3
    simpa using this
  subst h5
  obtain ⟨⟨cs, h6⟩, h7⟩ := h4 k h2
  exact ⟨blk_lt h6, h7⟩
/-- what turns no cartridge -/
theorem Li.tchg {w w' : World} {lo lo' g calls calls' : Nat} {C : List Nat} {SS : List CS} {D D' : List Dr} {ts : List TypeId} (h : Li w lo g C SS D calls) (hc : TChg lo' ts w w') (h0 : 64 ∉ ts) (h1 : 66 ∉ ts) (h2 : 5 ∉ ts) (hl : ∃ vc vd, Lb w' lo g vc vd C D' calls') : Li w' lo g C SS D' calls' := by
  refine ⟨hl, h.len, fun i b s hb hs => ?_, fun i j b b' hij hb hb' => ?_⟩
  · obtain ⟨l, hi, h3, h4⟩ := h.ct i b s hb hs
    exact ⟨l, hi, h3, h4.tchg hc h0 h1 h2⟩
  · obtain ⟨h3, h4⟩ := h.ap i j b b' hij hb hb'
    have keep : ∀ (i b : Nat), C[i]? = some b → w'.heap[b]? = w.heap[b]? := fun i b hb => by
      obtain ⟨s, hs⟩ : ∃ s, SS[i]? = some s := ⟨_, List.getElem?_eq_getElem (by rw [h.len]; exact (List.getElem?_eq_some_iff.mp hb).1)⟩
      obtain ⟨l, hi, -, h5⟩ := h.ct i b s hb hs
      obtain ⟨v, h6, -⟩ := h5.blk
      rw [h6]
      exact hc.block h6 h0
    exact ⟨h3, fun k hk hk' => h4 k (hk.of_eq (keep i b hb)) (hk'.of_eq (keep j b' hb'))⟩
theorem Li.gr {w w' : World} {lo g calls : Nat} {C : List Nat} {SS : List CS} {D : List Dr} (h : Li w lo g C SS D calls) (hg : Below w.heap.size w w') : Li w' lo g C SS D calls := by
  obtain ⟨vc, vd, hl⟩ := h.lb
  exact h.tchg (lo' := 0) (ts := []) (TChg.of_below hg) (by simp) (by simp) (by simp) ⟨vc, vd, (Lb.gr hg (Lib.hid hl)).out⟩
/-- an act on one cartridge -/
theorem Li.cart {w w' : World} {lo g calls i b l hi : Nat} {C : List Nat} {SS : List CS} {D : List Dr} {s' : CS} (h : Li w lo g C SS D calls) (hb : C[i]? = some b) (hf : CFr w w' b) (hc : Ct w' l hi b s') (hl : lo ≤ l) (hlb : ∃ vc vd, Lb w' lo g vc vd C D calls) : Li w' lo g C (SS.set i s') D calls := by
  have hsl : ∀ (i b : Nat), C[i]? = some b → ∃ s, SS[i]? = some s := fun i b hb => ⟨_, List.getElem?_eq_getElem (by rw [h.len]; exact (List.getElem?_eq_some_iff.mp hb).1)⟩
  obtain ⟨s, hs⟩ := hsl i b hb
  obtain ⟨l0, hi0, -, hct0⟩ := h.ct i b s hb hs
  obtain ⟨v0, hblk, hrow⟩ := hct0.blk
  have oth : ∀ (j b' : Nat) (s2 : CS), j ≠ i → C[j]? = some b' → SS[j]? = some s2 → (∃ l hi, lo ≤ l ∧ Ct w' l hi b' s2) ∧ w'.heap[b']? = w.heap[b']? := fun j b' s2 hj hb' hs2 => by
    obtain ⟨l2, hi2, h1, h2⟩ := h.ct j b' s2 hb' hs2
    obtain ⟨h3, h4⟩ := h.ap i j b b' (fun e => hj e.symm) hb hb'
    have h5 := h2.apart (T := 0) hf hblk (fun k hk => (hrow k hk).1) (fun e => h3 e.symm) h4
    obtain ⟨v2, h6, -⟩ := h2.blk
    refine ⟨⟨l2, hi2, h1, h5⟩, hf.1.2.2.2.2 b' (blk_lt h6) (fun ho => ?_)⟩
    rcases ho with rfl | ⟨v9, a9, c9, h9, k9⟩
    · exact h3 rfl
    · rw [hblk] at h9
      injection h9 with h9
      injection h9 with h9
      have h10 : v0 = v9 := by
        have := congrArg (fun x : Array Value => x[0]?) h9
        simpa using this
      obtain ⟨⟨cs, h11⟩, -⟩ := hrow b' (by rw [h10]; exact k9)
      rw [h6] at h11
      injection h11 with h11
      injection h11 with _ h11
      exact absurd h11 (by decide)
  have hil : i < SS.length := (List.getElem?_eq_some_iff.mp hs).1
  refine ⟨hlb, by rw [List.length_set]; exact h.len, fun j b' s2 hb' hs2 => ?_, fun j k bj bk hjk hbj hbk => ?_⟩
  · by_cases e : j = i
    · subst e
      rw [List.getElem?_set_self hil] at hs2
      injection hs2 with hs2
      subst hs2
      rw [hb] at hb'
      injection hb' with hb'
      subst hb'
      exact ⟨l, hi, hl, hc⟩
    · rw [List.getElem?_set_ne (fun e2 => e e2.symm)] at hs2
      exact (oth j b' s2 e hb' hs2).1
  · obtain ⟨h3, h4⟩ := h.ap j k bj bk hjk hbj hbk
    refine ⟨h3, fun x hx hx' => ?_⟩
    obtain ⟨sj, hsj⟩ := hsl j bj hbj
    obtain ⟨sk, hsk⟩ := hsl k bk hbk
    obtain ⟨lj, hij, -, hcj⟩ := h.ct j bj sj hbj hsj
    obtain ⟨lk, hik, -, hck⟩ := h.ct k bk sk hbk hsk
    by_cases ej : j = i
    · subst ej
      rw [hb] at hbj
      injection hbj with hbj
      subst hbj
      have hk' := hx'.of_eq (oth k bk sk (fun e => hjk e.symm) hbk hsk).2
      rcases hf.2 x hx with h5 | h5
      · exact h4 x h5 hk'
      · have := (hk'.lt hck).1; omega
    · have hj' := hx.of_eq (oth j bj sj ej hbj hsj).2
      by_cases ek : k = i
      · subst ek
        rw [hb] at hbk
        injection hbk with hbk
        subst hbk
        rcases hf.2 x hx' with h5 | h5
        · exact h4 x hj' h5
        · have := (hj'.lt hcj).1; omega
      · exact h4 x hj' (hx'.of_eq (oth k bk sk ek hbk hsk).2)
/-- a cartridge more -/
theorem Li.snoc {w w' : World} {lo g calls q hi m : Nat} {C : List Nat} {SS : List CS} {D : List Dr} (h : Li w lo g C SS D calls) (hlo : lo ≤ w.heap.size) (hc : TChg lo lts w w') (hq : w.heap.size ≤ q) (hct : Ct w' w.heap.size hi q ⟨[], m, false⟩) (hlb : ∃ vc vd, Lb w' lo g vc vd (C ++ [q]) D calls) : Li w' lo g (C ++ [q]) (SS ++ [⟨[], m, false⟩]) D calls := by
  have keep : ∀ (i b : Nat), C[i]? = some b → w'.heap[b]? = w.heap[b]? ∧ b < w.heap.size := fun i b hb => by
    obtain ⟨s, hs⟩ : ∃ s, SS[i]? = some s := ⟨_, List.getElem?_eq_getElem (by rw [h.len]; exact (List.getElem?_eq_some_iff.mp hb).1)⟩
    obtain ⟨l, hi, -, h5⟩ := h.ct i b s hb hs
    obtain ⟨v, h6, -⟩ := h5.blk
    exact ⟨by rw [h6]; exact hc.block h6 (by decide), blk_lt h6⟩
  have rowlt : ∀ (i b : Nat), C[i]? = some b → ∀ k, RowOf w b k → k < w.heap.size := fun i b hb k hk => by
    obtain ⟨s, hs⟩ : ∃ s, SS[i]? = some s := ⟨_, List.getElem?_eq_getElem (by rw [h.len]; exact (List.getElem?_eq_some_iff.mp hb).1)⟩
    obtain ⟨l, hi, -, h5⟩ := h.ct i b s hb hs
    exact (hk.lt h5).1
  have split : ∀ (i b : Nat), (C ++ [q])[i]? = some b → (C[i]? = some b ∧ i < C.length) ∨ (i = C.length ∧ b = q) := fun i b hb => by
    by_cases hi : i < C.length
    · rw [List.getElem?_append_left hi] at hb; exact .inl ⟨hb, hi⟩
    · have hl := (List.getElem?_eq_some_iff.mp hb).1
      rw [List.length_append] at hl
      have e : i = C.length := by simp at hl; omega
      subst e
      rw [List.getElem?_append_right (Nat.le_refl _), Nat.sub_self] at hb
      injection hb with hb
      exact .inr ⟨rfl, hb.symm⟩
  refine ⟨hlb, by simp [h.len], fun i b s hb hs => ?_, fun i j b b' hij hb hb' => ?_⟩
  · rcases split i b hb with ⟨hbC, hil⟩ | ⟨rfl, rfl⟩
    · rw [List.getElem?_append_left (by rw [h.len]; exact hil)] at hs
      obtain ⟨l, hi, h3, h4⟩ := h.ct i b s hbC hs
      exact ⟨l, hi, h3, h4.tchg hc (by decide) (by decide) (by decide)⟩
    · rw [List.getElem?_append_right (by rw [h.len]; exact Nat.le_refl _), h.len, Nat.sub_self] at hs
      injection hs with hs
      subst hs
      exact ⟨_, hi, hlo, hct⟩
  · rcases split i b hb with ⟨hbC, hil⟩ | ⟨rfl, rfl⟩
    · rcases split j b' hb' with ⟨hbD, hjl⟩ | ⟨rfl, rfl⟩
      · obtain ⟨h3, h4⟩ := h.ap i j b b' hij hbC hbD
        exact ⟨h3, fun k hk hk' => h4 k (hk.of_eq (keep i b hbC).1) (hk'.of_eq (keep j b' hbD).1)⟩
      · refine ⟨by have := (keep i b hbC).2; omega, fun k hk hk' => ?_⟩
        have h5 := rowlt i b hbC k (hk.of_eq (keep i b hbC).1)
        have h6 := (hk'.lt hct).2
        omega
    · rcases split j b' hb' with ⟨hbD, hjl⟩ | ⟨rfl, rfl⟩
      · refine ⟨by have := (keep j b' hbD).2; omega, fun k hk hk' => ?_⟩
        have h5 := rowlt j b' hbD k (hk'.of_eq (keep j b' hbD).1)
        have h6 := (hk.lt hct).2
        omega
      · exact absurd rfl hij
end Go.Proofs.Ytfjhdcppehfiiaa
