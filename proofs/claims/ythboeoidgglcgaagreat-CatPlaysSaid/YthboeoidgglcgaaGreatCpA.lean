/- cat: the reference's catalog in memory. -/
import Derived.Test.YthboeoidgglcgaaGreatCtY
import Derived.Test.YthboeoidgglcgaaGreatCtC
import Derived.Test.YthboeoidgglcgaaGreatReg2
namespace Go.Proofs.YthboeoidgglcgaaGreat
set_option linter.unusedVariables false
set_option linter.unusedSimpArgs false
set_option linter.unusedSectionVars false
open Go Go.RowKit Go.Maps Go.Sort Go.Shelf Go.Proofs
def encB (x : By × By) : List Value := [.string (bs x.1), .string (bs x.2)]
def flatB (l : List (By × By)) : List Value := l.flatMap encB
theorem flatB_len (l : List (By × By)) : (flatB l).length = l.length * 2 := by
  induction l with
  | nil => rfl
  | cons q l ih => simp [flatB, encB] at *; omega
theorem flatB_app (l m : List (By × By)) : flatB (l ++ m) = flatB l ++ flatB m := by simp [flatB]
theorem flatB_one (l : List (By × By)) : ∀ v ∈ flatB l, v.oneCell' = true := fun v hv => by
  unfold flatB at hv
  obtain ⟨x, -, h⟩ := List.mem_flatMap.mp hv
  simp [encB] at h
  rcases h with rfl | rfl <;> rfl
theorem flatB_at {l : List (By × By)} {i : Nat} {x : By × By} (h : l[i]? = some x) : (flatB l)[i * 2]? = some (.string (bs x.1)) ∧ (flatB l)[i * 2 + 1]? = some (.string (bs x.2)) := by
  induction l generalizing i with
  | nil => simp at h
  | cons p l ih =>
    cases i with
    | zero => simp at h; subst h; exact ⟨rfl, rfl⟩
    | succ i =>
      have h' : l[i]? = some x := by simpa using h
      obtain ⟨a, b⟩ := ih h'
      rw [show (i + 1) * 2 = i * 2 + 2 from by omega]
      exact ⟨a, b⟩
theorem info_rblob : (Tryz.prog.info? 58).map (fun i => (i.zero, i.size, i.bytes)) = some (some (.agg #[.string ⟨#[]⟩, .string ⟨#[]⟩]), 2, 32) := by kernel_rfl
theorem info_rmark : (Tryz.prog.info? 63).map (fun i => (i.zero, i.size, i.bytes)) = some (some (.agg #[.string ⟨#[]⟩, .int .i64 0]), 2, 24) := by kernel_rfl
theorem info_rint : (Tryz.prog.info? 3).map (fun i => (i.zero, i.size, i.bytes)) = some (some (.int .i64 0), 1, 8) := by kernel_rfl
/-- what the reference's catalog is made of, as it lies -/
structure RcX where
  vW : Value
  vH : Value
  vB : Value
  vT : Value
  vR : Value
  E : List Et
def RcX.S (y : RcX) (g k : Nat) : Prop := k = g ∨ y.vW.ownBlock = some k
/-- block g is the reference's catalog that holds c -/
structure Rc (w : World) (lo g : Nat) (y : RcX) (c : CtP) : Prop where
  blk : w.heap[g]? = some (.cells #[y.vW, y.vH, y.vB, y.vT, y.vR, .int .i64 c.G] 31 (0, 0))
  lg : lo ≤ g
  ws : w.ownsRow lo 58 2 y.vW c.W.length (flatB c.W)
  hs : OE y.E y.vH lo w
  he : y.E.map (·.e) = c.E.map Prod.snd
  bs : w.ownsRow lo 63 2 y.vB c.B.length (flatT c.B)
  ts : w.ownsRow lo 63 2 y.vT c.T.length (flatT c.T)
  rs : OZ c.R y.vR lo w
section
variable {w w' : World} {lo g : Nat} {y : RcX} {c : CtP}
theorem OE.keep {E : List Et} {v : Value} {base : Nat} {w w' : World} (h : OE E v base w) (h1 : ∀ k, v.ownBlock = some k → w'.heap[k]? = w.heap[k]?) (h2 : ∀ x ∈ E, ∀ k, x.v.ownBlock = some k → w'.heap[k]? = w.heap[k]?) : OE E v base w' :=
  ⟨row_keep h.1 h1, fun x hx => ⟨row_keep (h.2 x hx).1 (h2 x hx), (h.2 x hx).2⟩⟩
theorem Rc.keep (h : Rc w lo g y c) (h0 : w'.heap[g]? = w.heap[g]?) (h1 : ∀ v ∈ [y.vW, y.vH, y.vB, y.vT, y.vR], ∀ k, v.ownBlock = some k → w'.heap[k]? = w.heap[k]?) (h2 : ∀ x ∈ y.E, ∀ k, x.v.ownBlock = some k → w'.heap[k]? = w.heap[k]?) : Rc w' lo g y c where
  blk := h0.trans h.blk
  lg := h.lg
  ws := row_keep h.ws (h1 _ (by simp))
  hs := h.hs.keep (h1 _ (by simp)) h2
  he := h.he
  bs := row_keep h.bs (h1 _ (by simp))
  ts := row_keep h.ts (h1 _ (by simp))
  rs := row_keep h.rs (h1 _ (by simp))
theorem Rc.gr (h : Rc w lo g y c) (hg : Gr w w') : Rc w' lo g y c where
  blk := blk_below h.blk hg
  lg := h.lg
  ws := row_below h.ws hg
  hs := h.hs.gr hg
  he := h.he
  bs := row_below h.bs hg
  ts := row_below h.ts hg
  rs := row_below h.rs hg
theorem Rc.lt (h : Rc w lo g y c) : ∀ k, y.S g k → k < w.heap.size ∧ lo ≤ k := fun k hk => by
  rcases hk with rfl | hk
  · exact ⟨blk_lt h.blk, h.lg⟩
  · exact ⟨(h.ws.lt k hk).2, (h.ws.lt k hk).1⟩
theorem Rc.len (h : Rc w lo g y c) : y.E.length = c.E.length := by
  have := congrArg List.length h.he
  rwa [List.length_map, List.length_map] at this
end
def idxP {V : Type} (L : List (By × V)) (k : By) : Int := match L.findIdx? (fun e => e.1 == k) with | some i => i | none => -1
theorem idxP_no {V : Type} {L : List (By × V)} {k : By} (h : hasP L k = false) : idxP L k = -1 := by
  unfold idxP
  have : L.findIdx? (fun e => e.1 == k) = none := by
    rw [List.findIdx?_eq_none_iff]
    intro e he
    cases hb : (e.1 == k) with
    | false => rfl
    | true => rw [(hasP_iff L k).mpr ⟨e, he, eq_of_beq hb⟩] at h; cases h
  rw [this]
theorem idxP_yes {V : Type} {L : List (By × V)} {k : By} (h : hasP L k = true) : ∃ (i : Nat) (x : By × V), idxP L k = (i : Int) ∧ L[i]? = some x ∧ x.1 = k ∧ ∀ j z, j < i → L[j]? = some z → z.1 ≠ k := by
  unfold idxP
  cases hf : L.findIdx? (fun e => e.1 == k) with
  | none =>
    obtain ⟨e, he, e1⟩ := (hasP_iff L k).mp h
    have := List.findIdx?_eq_none_iff.mp hf e he
    rw [e1] at this
    simp at this
  | some i =>
    obtain ⟨hi, h1, h2⟩ := List.findIdx?_eq_some_iff_getElem.mp hf
    refine ⟨i, L[i], rfl, List.getElem?_eq_getElem hi, eq_of_beq h1, fun j z hj hz e => ?_⟩
    obtain ⟨a, b⟩ := List.getElem?_eq_some_iff.mp hz
    have := h2 j hj
    rw [b, e] at this
    simp at this
theorem idxP_at {V : Type} {L : List (By × V)} {k : By} {i : Nat} {x : By × V} (hx : L[i]? = some x) (hk : x.1 = k) (hl : ∀ j z, j < i → L[j]? = some z → z.1 ≠ k) : idxP L k = (i : Int) := by
  obtain ⟨i', x', e, h1, h2, h3⟩ := idxP_yes (L := L) (k := k) ((hasP_iff L k).mpr ⟨x, List.mem_of_getElem? hx, hk⟩)
  rw [e]
  rcases Nat.lt_trichotomy i i' with hlt | rfl | hlt
  · exact absurd hk (h3 i x hlt hx)
  · rfl
  · exact absurd h2 (hl i' x' hlt h1)
theorem idxP_end {V : Type} {L : List (By × V)} {k : By} (hl : ∀ j z, j < L.length → L[j]? = some z → z.1 ≠ k) : idxP L k = -1 := by
  refine idxP_no ?_
  cases hh : hasP L k with
  | false => rfl
  | true =>
    obtain ⟨e, he, e1⟩ := (hasP_iff L k).mp hh
    obtain ⟨j, hj⟩ := List.mem_iff_getElem?.mp he
    exact absurd e1 (hl j e (List.getElem?_eq_some_iff.mp hj).1 hj)
theorem delP_idx {V : Type} {L : List (By × V)} (hd : DistP L) {i : Nat} {x : By × V} (hx : L[i]? = some x) : delP L x.1 = L.take i ++ L.drop (i + 1) := by
  obtain ⟨hi, hv⟩ := List.getElem?_eq_some_iff.mp hx
  have e : L = L.take i ++ x :: L.drop (i + 1) := by rw [← hv, ← List.drop_eq_getElem_cons hi, List.take_append_drop]
  have hd' := hd
  unfold DistP at hd'
  rw [e, List.pairwise_append, List.pairwise_cons] at hd'
  obtain ⟨-, ⟨h2, -⟩, h3⟩ := hd'
  conv => lhs; rw [e]
  unfold delP
  rw [List.filter_append, List.filter_cons_of_neg (by simp)]
  congr 1
  · rw [List.filter_eq_self]
    intro a ha
    simpa using h3 a ha x (by simp)
  · rw [List.filter_eq_self]
    intro a ha
    simpa using Ne.symm (h2 a ha)
end Go.Proofs.YthboeoidgglcgaaGreat
/- cat: the reference's catalog: what is asked of it. -/
namespace Go.Proofs.YthboeoidgglcgaaGreat
set_option linter.unusedVariables false
set_option linter.unusedSimpArgs false
set_option linter.unusedSectionVars false
open Go Go.RowKit Go.Maps Go.Sort Go.Shelf Go.Proofs
theorem keyB {a k : By} : ((bs a).toList == (bs k).toList) = (a == k) := by rw [bs_toList, bs_toList]
section
variable (lo g : Nat) (y : RcX) (c : CtP) (w : World) (h : Hid (Rc w lo g y c)) (hf : c.Few 1000)
include h hf
set_option maxRecDepth 10000 in
set_option maxHeartbeats 1000000 in
theorem rwaits_any (k : By) : Calls Tryz.prog 13 #[.pointer (some ⟨g, 0, none⟩), .string (bs k)] w fun e w' => e = .returned (.int .i64 (idxP c.W k)) ∧ w' = w := by
  have hrow := h.out.ws
  obtain ⟨n, hn⟩ : ∃ n, c.W.length = n := ⟨_, rfl⟩
  have hnl : n ≤ 1000 := by have := hf.1; omega
  rw [hn] at hrow
  obtain ⟨A, ca, hv, -, -⟩ := row_form hrow
  have y0 := blk_cell (j := 0) h.out.blk rfl
  rw [hv] at y0 hrow
  obtain ⟨r, hr⟩ : ∃ r, idxP c.W k = r := ⟨_, rfl⟩
  rw [hr]
  replace hr := Lib.hid hr
  replace hn := Lib.hid hn
  replace hrow := Lib.hid hrow
  replace hv := Lib.hid hv
  go_enter Tryz.func13, Tryz.ntmps13
  go_wp2_with fail
  go_loopw [5] (fun u wr => ∃ j : Nat, j ≤ n ∧ u = .int .i64 j ∧ Hid (∀ i x, i < j → c.W[i]? = some x → x.1 ≠ k) ∧ wr = w) (fun u _ => (n - intOf u).toNat)
  case atStart => exact ⟨0, Nat.zero_le _, rfl, Lib.hid (fun i x hi => absurd hi (Nat.not_lt_zero _)), rfl⟩
  case round =>
    obtain ⟨j, hj, rfl, hb, rfl⟩ := hrel
    by_cases hlt : j < n
    · have ii : (j : Int) < (n : Int) := by omega
      obtain ⟨b, c', e', -, -, -, -, -, -, hcell, -⟩ := row_at hrow.out (by omega)
      injection e' with e1 _ e3
      subst e1 e3
      obtain ⟨x, hx⟩ : ∃ x, c.W[j]? = some x := ⟨_, List.getElem?_eq_getElem (by rw [hn.out]; exact hlt)⟩
      have q0 := hcell _ _ (flatB_at hx).1
      clear hcell
      by_cases hk : x.1 = k
      · have hres : Hid (r = (j : Int)) := Lib.hid (by rw [← hr.out]; exact idxP_at hx hk (fun i z hi hz => hb.out i z hi hz))
        rw [hk] at q0
        replace hx := Lib.hid hx
        replace hk := Lib.hid hk
        go_wp2_with fail
        go_ret
        exact ⟨by rw [hres.out]; rfl, rfl⟩
      · have hne : (x.1 == k) = false := by simpa using hk
        replace hx := Lib.hid hx
        go_wp2_with fail
        go_roundw
        case rel => exact ⟨j + 1, by omega, by go_num, Lib.hid (fun i z hi hz => by
          by_cases hij : i < j
          · exact hb.out i z hij hz
          · obtain rfl : i = j := by omega
            rw [hx.out] at hz
            injection hz with hz
            rw [← hz]; exact hk), by first | rfl | trivial⟩
        case measure => simp [intOf]; omega
    · obtain rfl : n = j := by omega
      have hres : Hid (r = -1) := Lib.hid (by rw [← hr.out]; exact idxP_end (fun i z hi hz => hb.out i z (by rw [hn.out] at hi; exact hi) hz))
      go_wp2_with fail
      go_ret
      exact ⟨by rw [hres.out]; rfl, rfl⟩
set_option maxRecDepth 10000 in
set_option maxHeartbeats 1000000 in
theorem ris13_any (hok : ∀ e ∈ c.E, e.2.key = e.1) (k : By) : Calls Tryz.prog 14 #[.pointer (some ⟨g, 0, none⟩), .string (bs k)] w fun e w' => e = .returned (.int .i64 (idxP c.E k)) ∧ w' = w := by
  have hrow := h.out.hs.1
  obtain ⟨n, hn⟩ : ∃ n, c.E.length = n := ⟨_, rfl⟩
  have hnl : n ≤ 1000 := by have := hf.2.1; omega
  rw [h.out.len] at hrow
  rw [hn] at hrow
  obtain ⟨A, ca, hv, -, -⟩ := row_form hrow
  have y0 := blk_cell (j := 1) h.out.blk rfl
  rw [hv] at y0 hrow
  obtain ⟨r, hr⟩ : ∃ r, idxP c.E k = r := ⟨_, rfl⟩
  rw [hr]
  replace hr := Lib.hid hr
  replace hn := Lib.hid hn
  replace hrow := Lib.hid hrow
  replace hv := Lib.hid hv
  go_enter Tryz.func14, Tryz.ntmps14
  go_wp2_with fail
  go_loopw [5] (fun u wr => ∃ j : Nat, j ≤ n ∧ u = .int .i64 j ∧ Hid (∀ i x, i < j → c.E[i]? = some x → x.1 ≠ k) ∧ wr = w) (fun u _ => (n - intOf u).toNat)
  case atStart => exact ⟨0, Nat.zero_le _, rfl, Lib.hid (fun i x hi => absurd hi (Nat.not_lt_zero _)), rfl⟩
  case round =>
    obtain ⟨j, hj, rfl, hb, rfl⟩ := hrel
    by_cases hlt : j < n
    · have ii : (j : Int) < (n : Int) := by omega
      obtain ⟨b, c', e', -, -, -, -, -, -, hcell, -⟩ := row_at hrow.out (by omega)
      injection e' with e1 _ e3
      subst e1 e3
      obtain ⟨x, hx⟩ : ∃ x, c.E[j]? = some x := ⟨_, List.getElem?_eq_getElem (by rw [hn.out]; exact hlt)⟩
      obtain ⟨xe, hxe⟩ : ∃ xe, y.E[j]? = some xe := ⟨_, List.getElem?_eq_getElem (by rw [h.out.len, hn.out]; exact hlt)⟩
      have hkey : xe.e.key = x.1 := by
        have h1 := congrArg (fun l => l[j]?) h.out.he
        simp only [List.getElem?_map, hxe, hx, Option.map_some] at h1
        injection h1 with h1
        rw [h1]
        exact hok x (List.mem_of_getElem? hx)
      have q0 := hcell _ (.string (bs xe.e.key)) ((flatE_at hxe 0 (by omega)).trans rfl)
      rw [hkey, Nat.add_zero] at q0
      clear hcell
      by_cases hk : x.1 = k
      · have hres : Hid (r = (j : Int)) := Lib.hid (by rw [← hr.out]; exact idxP_at hx hk (fun i z hi hz => hb.out i z hi hz))
        rw [hk] at q0
        replace hx := Lib.hid hx
        replace hk := Lib.hid hk
        go_wp2_with fail
        go_ret
        exact ⟨by rw [hres.out]; rfl, rfl⟩
      · have hne : (x.1 == k) = false := by simpa using hk
        replace hx := Lib.hid hx
        go_wp2_with fail
        go_roundw
        case rel => exact ⟨j + 1, by omega, by go_num, Lib.hid (fun i z hi hz => by
          by_cases hij : i < j
          · exact hb.out i z hij hz
          · obtain rfl : i = j := by omega
            rw [hx.out] at hz
            injection hz with hz
            rw [← hz]; exact hk), by first | rfl | trivial⟩
        case measure => simp [intOf]; omega
    · obtain rfl : n = j := by omega
      have hres : Hid (r = -1) := Lib.hid (by rw [← hr.out]; exact idxP_end (fun i z hi hz => hb.out i z (by rw [hn.out] at hi; exact hi) hz))
      go_wp2_with fail
      go_ret
      exact ⟨by rw [hres.out]; rfl, rfl⟩
omit h hf in
theorem idxP_ge {V : Type} (L : List (By × V)) (k : By) : decide (idxP L k ≥ 0) = hasP L k := by
  cases hh : hasP L k with
  | true => obtain ⟨i, x, e, -⟩ := idxP_yes hh; rw [e]; exact decide_eq_true (by omega)
  | false => rw [idxP_no hh]; rfl
set_option maxRecDepth 10000 in
theorem rhas_any (hok : c.Ok) (k : By) : Calls Tryz.prog 12 #[.pointer (some ⟨g, 0, none⟩), .string (bs k)] w fun e w' => e = .returned (.bool (c.has k)) ∧ w' = w := by
  have h1 := Lib.hid (rwaits_any lo g y c w h hf k)
  have h2 := Lib.hid (ris13_any lo g y c w h hf (fun e he => (hok.okE e he).1) k)
  cases hW : hasP c.W k with
  | true =>
    have hc : c.has k = true := by unfold CtP.has; rw [hW, Bool.or_true]
    obtain ⟨i, x, e, -⟩ := idxP_yes hW
    rw [e] at h1
    rw [hc]
    replace hW := Lib.hid hW
    replace hc := Lib.hid hc
    go_enter Tryz.func12, Tryz.ntmps12
    go_wp2_with (go_at_call 13; go_must (refine h1.out.mono ?_); clear h1; rintro e w' ⟨rfl, hww⟩; rw [hww]; clear hww w')
    go_ret
    exact ⟨rfl, rfl⟩
  | false =>
    rw [idxP_no hW] at h1
    cases hE : hasP c.E k with
    | true =>
      have hc : c.has k = true := by unfold CtP.has; rw [hE, Bool.true_or]
      obtain ⟨i, x, e, -⟩ := idxP_yes hE
      rw [e] at h2
      rw [hc]
      replace hW := Lib.hid hW
      replace hE := Lib.hid hE
      replace hc := Lib.hid hc
      go_enter Tryz.func12, Tryz.ntmps12
      go_wp2_with (first
        | (go_at_call 13; go_must (refine h1.out.mono ?_); clear h1; rintro e w' ⟨rfl, hww⟩; rw [hww]; clear hww w')
        | (go_at_call 14; go_must (refine h2.out.mono ?_); clear h2; rintro e w' ⟨rfl, hww⟩; rw [hww]; clear hww w'))
      go_ret
      exact ⟨rfl, rfl⟩
    | false =>
      have hc : c.has k = false := by unfold CtP.has; rw [hE, hW]; rfl
      rw [idxP_no hE] at h2
      rw [hc]
      replace hW := Lib.hid hW
      replace hE := Lib.hid hE
      replace hc := Lib.hid hc
      go_enter Tryz.func12, Tryz.ntmps12
      go_wp2_with (first
        | (go_at_call 13; go_must (refine h1.out.mono ?_); clear h1; rintro e w' ⟨rfl, hww⟩; rw [hww]; clear hww w')
        | (go_at_call 14; go_must (refine h2.out.mono ?_); clear h2; rintro e w' ⟨rfl, hww⟩; rw [hww]; clear hww w'))
      go_ret
      exact ⟨rfl, rfl⟩
omit h hf in
theorem getP_take {L : List (By × Int)} {k : By} {j : Nat} {x : By × Int} (hd : DistP L) (hx : L[j]? = some x) : getP (L.take (j + 1)) k 0 = if x.1 = k then x.2 else getP (L.take j) k 0 := by
  rw [List.take_add_one, hx]
  show getP (L.take j ++ [x]) k 0 = _
  unfold getP
  rw [List.find?_append]
  by_cases hk : x.1 = k
  · rw [if_pos hk]
    have hno : (L.take j).find? (fun e => e.1 == k) = none := by
      rw [List.find?_eq_none]
      intro e he hc
      obtain ⟨i, hi⟩ := List.mem_iff_getElem?.mp he
      rw [List.getElem?_take] at hi
      split at hi
      · rename_i hij
        obtain ⟨a1, a2⟩ := List.getElem?_eq_some_iff.mp hi
        obtain ⟨b1, b2⟩ := List.getElem?_eq_some_iff.mp hx
        have := List.pairwise_iff_getElem.mp hd i j a1 b1 hij
        rw [a2, b2] at this
        exact this ((eq_of_beq hc).trans hk.symm)
      · cases hi
    rw [hno]
    simp [hk]
  · rw [if_neg hk]
    cases (L.take j).find? (fun e => e.1 == k) with
    | some e => rfl
    | none => simp [hk]
set_option maxRecDepth 10000 in
set_option maxHeartbeats 1000000 in
theorem rbegan_any (hok : c.Ok) (k : By) : Calls Tryz.prog 25 #[.pointer (some ⟨g, 0, none⟩), .string (bs k)] w fun e w' => e = .returned (.int .i64 (getP c.B k 0)) ∧ w' = w := by
  have hrow := h.out.bs
  obtain ⟨n, hn⟩ : ∃ n, c.B.length = n := ⟨_, rfl⟩
  have hnl : n ≤ 1000 := by have := hf.2.2.1; omega
  rw [hn] at hrow
  obtain ⟨A, ca, hv, -, -⟩ := row_form hrow
  have y0 := blk_cell (j := 2) h.out.blk rfl
  rw [hv] at y0 hrow
  replace hn := Lib.hid hn
  replace hrow := Lib.hid hrow
  replace hv := Lib.hid hv
  go_enter Tryz.func25, Tryz.ntmps25
  go_wp2_with fail
  go_loopw [5, 6] (fun q u wr => ∃ (j : Nat) (z : Int), j ≤ n ∧ q = .int .i64 z ∧ u = .int .i64 j ∧ Hid (z = getP (c.B.take j) k 0) ∧ wr = w) (fun _ u _ => (n - intOf u).toNat)
  case atStart => exact ⟨0, 0, Nat.zero_le _, rfl, rfl, Lib.hid rfl, rfl⟩
  case round =>
    obtain ⟨j, z, hj, rfl, rfl, hb, rfl⟩ := hrel
    by_cases hlt : j < n
    · have ii : (j : Int) < (n : Int) := by omega
      obtain ⟨b, c', e', -, -, -, -, -, -, hcell, -⟩ := row_at hrow.out (by omega)
      injection e' with e1 _ e3
      subst e1 e3
      obtain ⟨x, hx⟩ : ∃ x, c.B[j]? = some x := ⟨_, List.getElem?_eq_getElem (by rw [hn.out]; exact hlt)⟩
      have q0 := hcell _ _ (flatT_at hx).1
      have q1 := hcell _ _ (flatT_at hx).2
      have hgt := Lib.hid (getP_take (k := k) hok.dB hx)
      clear hcell
      replace hx := Lib.hid hx
      by_cases hk : x.1 = k
      · rw [hk] at q0
        have hgt2 : Hid (getP (c.B.take (j + 1)) k 0 = x.2) := Lib.hid (by rw [hgt.out, if_pos hk])
        replace hk := Lib.hid hk
        go_wp2_with fail
        go_roundw
        case rel => exact ⟨j + 1, x.2, by omega, rfl, by go_num, Lib.hid hgt2.out.symm, by first | rfl | trivial⟩
        case measure => simp [intOf]; omega
      · have hne : (x.1 == k) = false := by simpa using hk
        go_wp2_with fail
        go_roundw
        case rel => exact ⟨j + 1, z, by omega, rfl, by go_num, Lib.hid (by rw [hgt.out, if_neg hk]; exact hb.out), by first | rfl | trivial⟩
        case measure => simp [intOf]; omega
    · obtain rfl : n = j := by omega
      have hz : Hid (z = getP c.B k 0) := Lib.hid (by rw [hb.out, List.take_of_length_le (by rw [hn.out]; exact Nat.le_refl _)])
      go_wp2_with fail
      go_ret
      exact ⟨by rw [hz.out]; rfl, rfl⟩
set_option maxRecDepth 10000 in
set_option maxHeartbeats 1000000 in
theorem rout_any (z : Int) : Calls Tryz.prog 30 #[.pointer (some ⟨g, 0, none⟩), .int .i64 z] w fun e w' => e = .returned (.bool (c.R.contains z)) ∧ w' = w := by
  obtain ⟨r, hr⟩ : ∃ r, c.R.contains z = r := ⟨_, rfl⟩
  rw [hr]
  replace hr := Lib.hid hr
  have hrow := h.out.rs
  unfold OZ at hrow
  obtain ⟨n, hn⟩ : ∃ n, c.R.length = n := ⟨_, rfl⟩
  have hnl : n ≤ 1000 := by have := hf.2.2.2.2; omega
  rw [hn] at hrow
  obtain ⟨A, ca, hv, -, -⟩ := row_form hrow
  have y0 := blk_cell (j := 4) h.out.blk rfl
  rw [hv] at y0 hrow
  replace hn := Lib.hid hn
  replace hrow := Lib.hid hrow
  replace hv := Lib.hid hv
  go_enter Tryz.func30, Tryz.ntmps30
  go_wp2_with fail
  go_loopw [5] (fun u wr => ∃ (j : Nat), j ≤ n ∧ u = .int .i64 j ∧ Hid (∀ i x, i < j → c.R[i]? = some x → x ≠ z) ∧ wr = w) (fun u _ => (n - intOf u).toNat)
  case atStart => exact ⟨0, Nat.zero_le _, rfl, Lib.hid (fun i x hi => absurd hi (Nat.not_lt_zero _)), rfl⟩
  case round =>
    obtain ⟨j, hj, rfl, hb, rfl⟩ := hrel
    by_cases hlt : j < n
    · have ii : (j : Int) < (n : Int) := by omega
      obtain ⟨b, c', e', -, -, -, -, -, -, hcell, -⟩ := row_at hrow.out (by omega)
      injection e' with e1 _ e3
      subst e1 e3
      obtain ⟨x, hx⟩ : ∃ x, c.R[j]? = some x := ⟨_, List.getElem?_eq_getElem (by rw [hn.out]; exact hlt)⟩
      have q0 := hcell j (.int .i64 x) (by rw [List.getElem?_map, hx]; rfl)
      clear hcell
      by_cases hk : x = z
      · subst hk
        have hres : Hid (r = true) := Lib.hid (by rw [← hr.out, List.contains_iff_mem]; exact List.mem_of_getElem? hx)
        replace hx := Lib.hid hx
        go_wp2_with fail
        go_ret
        exact ⟨by rw [hres.out]; rfl, rfl⟩
      · have hne : (x == z) = false := by simpa using hk
        replace hx := Lib.hid hx
        go_wp2_with fail
        go_roundw
        case rel => exact ⟨j + 1, by omega, by go_num, Lib.hid (fun i q hi hz => by
          by_cases hij : i < j
          · exact hb.out i q hij hz
          · obtain rfl : i = j := by omega
            rw [hx.out] at hz
            injection hz with hz
            rw [← hz]; exact hk), by first | rfl | trivial⟩
        case measure => simp [intOf]; omega
    · obtain rfl : n = j := by omega
      have hres : Hid (r = false) := Lib.hid (by
        rw [← hr.out]
        cases hc : c.R.contains z with
        | false => rfl
        | true =>
          rw [List.contains_iff_mem] at hc
          obtain ⟨i, hi⟩ := List.mem_iff_getElem?.mp hc
          exact absurd rfl (hb.out i z (by have := (List.getElem?_eq_some_iff.mp hi).1; rw [hn.out] at this; exact this) hi))
      go_wp2_with fail
      go_ret
      exact ⟨by rw [hres.out]; rfl, rfl⟩
end
set_option maxRecDepth 10000 in
theorem rnamed_any (k : By) (hk : k.length ≤ maxLen) (w : World) : Calls Tryz.prog 21 #[.string (bs k)] w fun e w' => e = .returned (.bool (keyOk k)) ∧ w' = w := by
  obtain ⟨n, hn⟩ : ∃ n, k.length = n := ⟨_, rfl⟩
  have hs : (bs k).size = n := by rw [← hn]; rfl
  unfold keyOk
  rw [hn]
  by_cases h1 : 1 ≤ n
  · have i1 : (1 : Int) ≤ (n : Int) := by omega
    by_cases h2 : n ≤ 16
    · have i2 : (n : Int) ≤ 16 := by omega
      rw [decide_eq_true h1, decide_eq_true h2]
      replace hn := Lib.hid hn
      go_enter Tryz.func21, Tryz.ntmps21
      go_wp2_with fail
      go_ret
      exact ⟨rfl, rfl⟩
    · have i2 : ¬ ((n : Int) ≤ 16) := by omega
      rw [decide_eq_true h1, decide_eq_false h2]
      replace hn := Lib.hid hn
      go_enter Tryz.func21, Tryz.ntmps21
      go_wp2_with fail
      go_ret
      exact ⟨rfl, rfl⟩
  · have i1 : ¬ ((1 : Int) ≤ (n : Int)) := by omega
    rw [decide_eq_false h1]
    replace hn := Lib.hid hn
    go_enter Tryz.func21, Tryz.ntmps21
    go_wp2_with fail
    go_ret
    exact ⟨rfl, rfl⟩
set_option maxRecDepth 10000 in
theorem rlater_any (lo g : Nat) (y : RcX) (c : CtP) (w : World) (h : Hid (Rc w lo g y c)) (z : Int) : Calls Tryz.prog 24 #[.pointer (some ⟨g, 0, none⟩), .int .i64 z] w fun e w' => e = .returned (.bool (c.later z)) ∧ w' = w := by
  have y5 := blk_cell (j := 5) h.out.blk rfl
  unfold CtP.later
  obtain ⟨G, hG⟩ : ∃ G, c.G = G := ⟨_, rfl⟩
  rw [hG] at y5 ⊢
  replace hG := Lib.hid hG
  by_cases h1 : G < z
  · by_cases h2 : z ≤ 1099511627776
    · rw [decide_eq_true h1, decide_eq_true h2]
      go_enter Tryz.func24, Tryz.ntmps24
      go_wp2_with fail
      go_ret
      exact ⟨rfl, rfl⟩
    · rw [decide_eq_true h1, decide_eq_false h2]
      go_enter Tryz.func24, Tryz.ntmps24
      go_wp2_with fail
      go_ret
      exact ⟨rfl, rfl⟩
  · rw [decide_eq_false h1]
    go_enter Tryz.func24, Tryz.ntmps24
    go_wp2_with fail
    go_ret
    exact ⟨rfl, rfl⟩
end Go.Proofs.YthboeoidgglcgaaGreat
/- cat: the reference's rows grow; drop. -/
namespace Go.Proofs.YthboeoidgglcgaaGreat
set_option linter.unusedVariables false
set_option linter.unusedSimpArgs false
set_option linter.unusedSectionVars false
open Go Go.RowKit Go.Maps Go.Sort Go.Shelf Go.Proofs
theorem encZ_one (l : List Int) : ∀ v ∈ l.map encZ, v.oneCell' = true := fun v hv => by
  obtain ⟨x, -, rfl⟩ := List.mem_map.mp hv
  rfl
theorem wp_appB {w : World} {o : Oper} {a : Act} {Q : Exit → Act → World → Prop} {K : Act → World → Prop} (s x : Operand)
    (ho : o.op = .call { callee := .builtin .append, args := #[s, x], argTypes := #[26, 26] })
    (base : Nat) (v : Value) (l : List (By × By)) (hs : a.eval s = v) (hown : w.ownsRow base 58 2 v l.length (flatB l)) (A : Option Addr) (c : Nat) (news : List (By × By)) {m B : Nat} (hx : a.eval x = .slice A m c) (hr : Reads w B 2 A m (flatB news))
    (hlen : l.length + news.length ≤ 1000000) (hbase : base ≤ w.heap.size)
    (h : ∀ v' w', w'.ownsRow base 58 2 v' (l ++ news).length (flatB (l ++ news)) → w.grownBy w' v.ownBlock → (v'.ownBlock = v.ownBlock ∨ v'.ownBlock = some w.heap.size) → K (a.put o.dst v') w') : Oper.wp Tryz.prog o a w K Q := by
  obtain ⟨i0, hi, hz0, hz1, hz2⟩ := info_parts info_rblob
  have hm : m = news.length := by have := hr.1; rw [flatB_len] at this; omega
  subst hm
  refine wp_append_any w s x 26 ho base 58 i0 _ 2 32 Tryz.underlying26 hi hz0 hz1 hz2 rfl (by omega) v l.length (flatB l) hs hown B A news.length c (flatB news) hx hr (flatB_one news)
    (by simp only [maxLen]; omega) (by omega) hbase fun v' w' h2 h3 h4 => h v' w' ?_ h3 h4
  rw [List.length_append, flatB_app]; exact h2
theorem wpl_appB {w : World} {ops : Array Oper} {rest : List Oper} {o : Oper} {a : Act} {Q : Exit → Act → World → Prop} (hgd : o.guard = none) (s x : Operand)
    (ho : o.op = .call { callee := .builtin .append, args := #[s, x], argTypes := #[26, 26] })
    (base : Nat) (v : Value) (l : List (By × By)) (hs : a.eval s = v) (hown : w.ownsRow base 58 2 v l.length (flatB l)) (A : Option Addr) (c : Nat) (news : List (By × By)) {m B : Nat} (hx : a.eval x = .slice A m c) (hr : Reads w B 2 A m (flatB news))
    (hlen : l.length + news.length ≤ 1000000) (hbase : base ≤ w.heap.size)
    (h : ∀ v' w', w'.ownsRow base 58 2 v' (l ++ news).length (flatB (l ++ news)) → w.grownBy w' v.ownBlock → (v'.ownBlock = v.ownBlock ∨ v'.ownBlock = some w.heap.size) → wpList Tryz.prog ops Q rest (a.put o.dst v') w') : wpList Tryz.prog ops Q (o :: rest) a w :=
  wpList_plain hgd fun _ hK => wp_appB s x ho base v l hs hown A c news hx hr hlen hbase fun v' w' h2 h3 h4 => hK _ _ (h v' w' h2 h3 h4)
theorem wp_appM {w : World} {o : Oper} {a : Act} {Q : Exit → Act → World → Prop} {K : Act → World → Prop} (s x : Operand)
    (ho : o.op = .call { callee := .builtin .append, args := #[s, x], argTypes := #[28, 28] })
    (base : Nat) (v : Value) (l : List (By × Int)) (hs : a.eval s = v) (hown : w.ownsRow base 63 2 v l.length (flatT l)) (A : Option Addr) (c : Nat) (news : List (By × Int)) {m B : Nat} (hx : a.eval x = .slice A m c) (hr : Reads w B 2 A m (flatT news))
    (hlen : l.length + news.length ≤ 1000000) (hbase : base ≤ w.heap.size)
    (h : ∀ v' w', w'.ownsRow base 63 2 v' (l ++ news).length (flatT (l ++ news)) → w.grownBy w' v.ownBlock → (v'.ownBlock = v.ownBlock ∨ v'.ownBlock = some w.heap.size) → K (a.put o.dst v') w') : Oper.wp Tryz.prog o a w K Q := by
  obtain ⟨i0, hi, hz0, hz1, hz2⟩ := info_parts info_rmark
  have hm : m = news.length := by have := hr.1; rw [flatT_len] at this; omega
  subst hm
  refine wp_append_any w s x 28 ho base 63 i0 _ 2 24 Tryz.underlying28 hi hz0 hz1 hz2 rfl (by omega) v l.length (flatT l) hs hown B A news.length c (flatT news) hx hr (flatT_one news)
    (by simp only [maxLen]; omega) (by omega) hbase fun v' w' h2 h3 h4 => h v' w' ?_ h3 h4
  rw [List.length_append, flatT_app]; exact h2
theorem wpl_appM {w : World} {ops : Array Oper} {rest : List Oper} {o : Oper} {a : Act} {Q : Exit → Act → World → Prop} (hgd : o.guard = none) (s x : Operand)
    (ho : o.op = .call { callee := .builtin .append, args := #[s, x], argTypes := #[28, 28] })
    (base : Nat) (v : Value) (l : List (By × Int)) (hs : a.eval s = v) (hown : w.ownsRow base 63 2 v l.length (flatT l)) (A : Option Addr) (c : Nat) (news : List (By × Int)) {m B : Nat} (hx : a.eval x = .slice A m c) (hr : Reads w B 2 A m (flatT news))
    (hlen : l.length + news.length ≤ 1000000) (hbase : base ≤ w.heap.size)
    (h : ∀ v' w', w'.ownsRow base 63 2 v' (l ++ news).length (flatT (l ++ news)) → w.grownBy w' v.ownBlock → (v'.ownBlock = v.ownBlock ∨ v'.ownBlock = some w.heap.size) → wpList Tryz.prog ops Q rest (a.put o.dst v') w') : wpList Tryz.prog ops Q (o :: rest) a w :=
  wpList_plain hgd fun _ hK => wp_appM s x ho base v l hs hown A c news hx hr hlen hbase fun v' w' h2 h3 h4 => hK _ _ (h v' w' h2 h3 h4)
theorem wp_appZ {w : World} {o : Oper} {a : Act} {Q : Exit → Act → World → Prop} {K : Act → World → Prop} (s x : Operand)
    (ho : o.op = .call { callee := .builtin .append, args := #[s, x], argTypes := #[29, 29] })
    (base : Nat) (v : Value) (l : List (Int)) (hs : a.eval s = v) (hown : w.ownsRow base 3 1 v l.length ((List.map encZ) l)) (A : Option Addr) (c : Nat) (news : List (Int)) {m B : Nat} (hx : a.eval x = .slice A m c) (hr : Reads w B 1 A m ((List.map encZ) news))
    (hlen : l.length + news.length ≤ 1000000) (hbase : base ≤ w.heap.size)
    (h : ∀ v' w', w'.ownsRow base 3 1 v' (l ++ news).length ((List.map encZ) (l ++ news)) → w.grownBy w' v.ownBlock → (v'.ownBlock = v.ownBlock ∨ v'.ownBlock = some w.heap.size) → K (a.put o.dst v') w') : Oper.wp Tryz.prog o a w K Q := by
  obtain ⟨i0, hi, hz0, hz1, hz2⟩ := info_parts info_rint
  have hm : m = news.length := by have := hr.1; rw [List.length_map] at this; omega
  subst hm
  refine wp_append_any w s x 29 ho base 3 i0 _ 1 8 Tryz.underlying29 hi hz0 hz1 hz2 rfl (by omega) v l.length ((List.map encZ) l) hs hown B A news.length c ((List.map encZ) news) hx hr (encZ_one news)
    (by simp only [maxLen]; omega) (by omega) hbase fun v' w' h2 h3 h4 => h v' w' ?_ h3 h4
  rw [List.length_append, List.map_append]; exact h2
theorem wpl_appZ {w : World} {ops : Array Oper} {rest : List Oper} {o : Oper} {a : Act} {Q : Exit → Act → World → Prop} (hgd : o.guard = none) (s x : Operand)
    (ho : o.op = .call { callee := .builtin .append, args := #[s, x], argTypes := #[29, 29] })
    (base : Nat) (v : Value) (l : List (Int)) (hs : a.eval s = v) (hown : w.ownsRow base 3 1 v l.length ((List.map encZ) l)) (A : Option Addr) (c : Nat) (news : List (Int)) {m B : Nat} (hx : a.eval x = .slice A m c) (hr : Reads w B 1 A m ((List.map encZ) news))
    (hlen : l.length + news.length ≤ 1000000) (hbase : base ≤ w.heap.size)
    (h : ∀ v' w', w'.ownsRow base 3 1 v' (l ++ news).length ((List.map encZ) (l ++ news)) → w.grownBy w' v.ownBlock → (v'.ownBlock = v.ownBlock ∨ v'.ownBlock = some w.heap.size) → wpList Tryz.prog ops Q rest (a.put o.dst v') w') : wpList Tryz.prog ops Q (o :: rest) a w :=
  wpList_plain hgd fun _ hK => wp_appZ s x ho base v l hs hown A c news hx hr hlen hbase fun v' w' h2 h3 h4 => hK _ _ (h v' w' h2 h3 h4)
theorem wp_appK {w : World} {o : Oper} {a : Act} {Q : Exit → Act → World → Prop} {K : Act → World → Prop} (s x : Operand)
    (ho : o.op = .call { callee := .builtin .append, args := #[s, x], argTypes := #[65, 65] })
    (base : Nat) (v : Value) (l : List (By)) (hs : a.eval s = v) (hown : w.ownsRow base 9 1 v l.length ((List.map sV) l)) (A : Option Addr) (c : Nat) (news : List (By)) {m B : Nat} (hx : a.eval x = .slice A m c) (hr : Reads w B 1 A m ((List.map sV) news))
    (hlen : l.length + news.length ≤ 1000000) (hbase : base ≤ w.heap.size)
    (h : ∀ v' w', w'.ownsRow base 9 1 v' (l ++ news).length ((List.map sV) (l ++ news)) → w.grownBy w' v.ownBlock → (v'.ownBlock = v.ownBlock ∨ v'.ownBlock = some w.heap.size) → K (a.put o.dst v') w') : Oper.wp Tryz.prog o a w K Q := by
  obtain ⟨i0, hi, hz0, hz1, hz2⟩ := info_parts info_str
  have hm : m = news.length := by have := hr.1; rw [List.length_map] at this; omega
  subst hm
  refine wp_append_any w s x 65 ho base 9 i0 _ 1 16 Tryz.underlying65 hi hz0 hz1 hz2 rfl (by omega) v l.length ((List.map sV) l) hs hown B A news.length c ((List.map sV) news) hx hr (strs_one news)
    (by simp only [maxLen]; omega) (by omega) hbase fun v' w' h2 h3 h4 => h v' w' ?_ h3 h4
  rw [List.length_append, List.map_append]; exact h2
theorem wpl_appK {w : World} {ops : Array Oper} {rest : List Oper} {o : Oper} {a : Act} {Q : Exit → Act → World → Prop} (hgd : o.guard = none) (s x : Operand)
    (ho : o.op = .call { callee := .builtin .append, args := #[s, x], argTypes := #[65, 65] })
    (base : Nat) (v : Value) (l : List (By)) (hs : a.eval s = v) (hown : w.ownsRow base 9 1 v l.length ((List.map sV) l)) (A : Option Addr) (c : Nat) (news : List (By)) {m B : Nat} (hx : a.eval x = .slice A m c) (hr : Reads w B 1 A m ((List.map sV) news))
    (hlen : l.length + news.length ≤ 1000000) (hbase : base ≤ w.heap.size)
    (h : ∀ v' w', w'.ownsRow base 9 1 v' (l ++ news).length ((List.map sV) (l ++ news)) → w.grownBy w' v.ownBlock → (v'.ownBlock = v.ownBlock ∨ v'.ownBlock = some w.heap.size) → wpList Tryz.prog ops Q rest (a.put o.dst v') w') : wpList Tryz.prog ops Q (o :: rest) a w :=
  wpList_plain hgd fun _ hK => wp_appK s x ho base v l hs hown A c news hx hr hlen hbase fun v' w' h2 h3 h4 => hK _ _ (h v' w' h2 h3 h4)
theorem wp_appEs {w : World} {o : Oper} {a : Act} {Q : Exit → Act → World → Prop} {K : Act → World → Prop} (s x : Operand)
    (ho : o.op = .call { callee := .builtin .append, args := #[s, x], argTypes := #[27, 27] })
    (base : Nat) (v : Value) (E E2 : List Et) (hs : a.eval s = v) (hown : OE E v base w) (A : Option Addr) (c : Nat) {m B : Nat} (hx : a.eval x = .slice A m c) (hr : Reads w B 5 A m (flatE E2))
    (hq : ∀ q ∈ E2, OP q.e.places q.v base w) (hlen : E.length + E2.length ≤ 1000000) (hbase : base ≤ w.heap.size)
    (h : ∀ v' w', OE (E ++ E2) v' base w' → w.grownBy w' v.ownBlock → (v'.ownBlock = v.ownBlock ∨ v'.ownBlock = some w.heap.size) → K (a.put o.dst v') w') : Oper.wp Tryz.prog o a w K Q := by
  obtain ⟨i0, hi, hz0, hz1, hz2⟩ := info_parts info_entry
  have hm : m = E2.length := by have := hr.1; rw [flatE_len] at this; omega
  subst hm
  refine wp_append_any w s x 27 ho base 43 i0 _ 5 72 Tryz.underlying27 hi hz0 hz1 hz2 rfl (by omega) v E.length (flatE E) hs hown.1 B A E2.length c (flatE E2) hx hr (flatE_one E2)
    (by simp only [maxLen]; omega) (by omega) hbase fun v' w' h2 h3 h4 => h v' w' ⟨?_, ?_⟩ h3 h4
  · rw [List.length_append, flatE_app]; exact h2
  · have hk : ∀ y : Et, OP y.e.places y.v base w → OP y.e.places y.v base w' := fun y hy => ⟨World.ownsRow.kept hy.1 h3 (by
      cases hu : y.v.ownBlock with
      | none => exact .inl rfl
      | some k => exact .inr (fun e => row_ne2 hy.1 hown.1 (by decide) k e.symm hu)), hy.2⟩
    intro y hy
    rcases List.mem_append.mp hy with hy | hy
    · exact hk y (hown.2 y hy)
    · exact hk y (hq y hy)
/-- the parts of a row in front of and behind a place -/
theorem Reads.part {w : World} {B size n c : Nat} {A : Option Addr} {xs : List Value} (h : Reads w B size A n xs) (hc : n ≤ c) {p : Nat} (hp : p ≤ n) : Reads w B size A p (xs.take (p * size)) ∧ Reads w B size (if c = p then A else A.map (·.add (p * size))) (n - p) (xs.drop (p * size)) := ⟨h.take hp, h.cut hp hc⟩
theorem flatB_take (l : List (By × By)) {p : Nat} (hp : p ≤ l.length) : (flatB l).take (p * 2) = flatB (l.take p) := by
  conv => lhs; rw [← List.take_append_drop p l, flatB_app]
  rw [List.take_left' (by rw [flatB_len, List.length_take]; omega)]
theorem flatB_drop (l : List (By × By)) {p : Nat} (hp : p ≤ l.length) : (flatB l).drop (p * 2) = flatB (l.drop p) := by
  conv => lhs; rw [← List.take_append_drop p l, flatB_app]
  rw [List.drop_left' (by rw [flatB_len, List.length_take]; omega)]
theorem flatT_tk (l : List (By × Int)) {p : Nat} (hp : p ≤ l.length) : (flatT l).take (p * 2) = flatT (l.take p) := by
  conv => lhs; rw [← List.take_append_drop p l, flatT_app]
  rw [List.take_left' (by rw [flatT_len, List.length_take]; omega)]
theorem flatT_dr (l : List (By × Int)) {p : Nat} (hp : p ≤ l.length) : (flatT l).drop (p * 2) = flatT (l.drop p) := by
  conv => lhs; rw [← List.take_append_drop p l, flatT_app]
  rw [List.drop_left' (by rw [flatT_len, List.length_take]; omega)]
theorem flatE_take (l : List Et) {p : Nat} (hp : p ≤ l.length) : (flatE l).take (p * 5) = flatE (l.take p) := by
  conv => lhs; rw [← List.take_append_drop p l, flatE_app]
  rw [List.take_left' (by rw [flatE_len, List.length_take]; omega)]
theorem flatE_drop (l : List Et) {p : Nat} (hp : p ≤ l.length) : (flatE l).drop (p * 5) = flatE (l.drop p) := by
  conv => lhs; rw [← List.take_append_drop p l, flatE_app]
  rw [List.drop_left' (by rw [flatE_len, List.length_take]; omega)]
end Go.Proofs.YthboeoidgglcgaaGreat
/- cat: the reference's without and drop. -/
namespace Go.Proofs.YthboeoidgglcgaaGreat
set_option linter.unusedVariables false
set_option linter.unusedSimpArgs false
set_option linter.unusedSectionVars false
open Go Go.RowKit Go.Maps Go.Sort Go.Shelf Go.Proofs
theorem Reads.two (w : World) (a b : Value) (t : TypeId) : Reads (w.alloc (.cells #[a, b] t)) (w.alloc (.cells #[a, b] t)).heap.size 2 (some ⟨w.heap.size, 0, none⟩) 1 [a, b] :=
  ⟨rfl, fun _ => ⟨_, rfl, by simp, fun j u hu => by
    rw [addr0]
    exact cell_new w _ _ (by simpa using hu)⟩⟩
theorem delP_take {V : Type} {L : List (By × V)} {k : By} {j : Nat} {x : By × V} (hx : L[j]? = some x) : delP (L.take (j + 1)) k = delP (L.take j) k ++ (if x.1 = k then [] else [x]) := by
  rw [List.take_add_one, hx]
  unfold delP
  show (L.take j ++ [x]).filter _ = _
  rw [List.filter_append]
  congr 1
  by_cases hk : x.1 = k
  · rw [if_pos hk, List.filter_cons_of_neg (by simpa using hk)]; rfl
  · rw [if_neg hk, List.filter_cons_of_pos (by simpa using hk)]; rfl
set_option maxRecDepth 10000 in
set_option maxHeartbeats 1000000 in
theorem rwithout_any (L : List (By × Int)) (lo : Nat) (v : Value) (w : World) (h : w.ownsRow lo 63 2 v L.length (flatT L)) (hl : L.length ≤ 1000) (k : By) :
    Calls Tryz.prog 26 #[v, .string (bs k)] w fun e w' => ∃ v', e = .returned v' ∧ w'.ownsRow w.heap.size 63 2 v' (delP L k).length (flatT (delP L k)) ∧ Gr w w' := by
  obtain ⟨n, hn⟩ : ∃ n, L.length = n := ⟨_, rfl⟩
  rw [hn] at h hl
  obtain ⟨A, ca, rfl, -, -⟩ := row_form h
  obtain ⟨B0, hB0⟩ : ∃ b, w.heap.size = b := ⟨_, rfl⟩
  have ho0 : Hid ((w.alloc (.cells #[] 63)).ownsRow B0 63 2 (.slice (some ⟨w.heap.size, 0, none⟩) 0 0) 0 (flatT [])) := Lib.hid (World.ownsRow_made w #[] 0 (by rw [hB0]; exact Nat.le_refl _) (by simp [maxLen]) rfl)
  have hg0 : Hid (Gr w (w.alloc (.cells #[] 63))) := Lib.hid (Gr.alloc _ _)
  have hlow : Hid (∀ y, Gr w y → B0 ≤ y.heap.size) := Lib.hid (fun y hy => by rw [← hB0]; exact Below.size hy)
  have hgo : Hid (∀ y z, Gr w y → Below B0 y z → Gr w z) := Lib.hid (fun y z h1 h2 => by unfold Gr at h1 ⊢; rw [hB0] at h1 ⊢; exact h1.trans h2)
  rw [hB0]
  replace hB0 := Lib.hid hB0
  replace hn := Lib.hid hn
  replace h := Lib.hid h
  go_enter Tryz.func26, Tryz.ntmps26
  go_wp2_with fail
  go_loopw [5, 6] (fun q u wr => ∃ (j m : Nat) (A1 : Option Addr) (c1 : Nat), j ≤ n ∧ q = .slice A1 m c1 ∧ u = .int .i64 j ∧ Hid ((delP (L.take j) k).length = m) ∧ Hid (wr.ownsRow B0 63 2 (.slice A1 m c1) m (flatT (delP (L.take j) k))) ∧ Hid (Gr w wr)) (fun _ u _ => (n - intOf u).toNat)
  case atStart => exact ⟨0, 0, _, _, Nat.zero_le _, rfl, rfl, Lib.hid rfl, ho0, hg0⟩
  case round =>
    obtain ⟨j, m, A1, c1, hj, rfl, rfl, hm, ho, hg⟩ := hrel
    clear ho0 hg0
    by_cases hlt : j < n
    · have ii : (j : Int) < (n : Int) := by omega
      obtain ⟨b, c', e', -, -, -, hb, -, -, hcell, -⟩ := row_at (row_below h.out hg.out) (by omega)
      injection e' with e1 _ e3
      subst e1 e3
      obtain ⟨x, hx⟩ : ∃ x, L[j]? = some x := ⟨_, List.getElem?_eq_getElem (by rw [hn.out]; exact hlt)⟩
      have q0 := hcell _ _ (flatT_at hx).1
      have q1 := hcell _ _ (flatT_at hx).2
      have hdt := Lib.hid (delP_take (k := k) hx)
      clear hcell
      replace hx := Lib.hid hx
      by_cases hk : x.1 = k
      · rw [hk] at q0
        have hdt2 : Hid (delP (L.take (j + 1)) k = delP (L.take j) k) := Lib.hid (by rw [hdt.out, if_pos hk, List.append_nil])
        replace hk := Lib.hid hk
        go_wp2_with fail
        go_roundw
        case rel => exact ⟨j + 1, m, A1, c1, by omega, rfl, by go_num, Lib.hid (by rw [hdt2.out]; exact hm.out), Lib.hid (by rw [hdt2.out]; exact ho.out), hg⟩
        case measure => simp [intOf]; omega
      · have hne : (x.1 == k) = false := by simpa using hk
        have hdt2 : Hid (delP (L.take (j + 1)) k = delP (L.take j) k ++ [x]) := Lib.hid (by rw [hdt.out, if_neg hk])
        have hml : Hid (m ≤ 1000) := Lib.hid (by have h1 := delP_le (L.take j) k; have h2 := List.length_take_le j L; have := hm.out; omega)
        have hr9 : Hid (Reads (wr.alloc (.cells #[.string (bs x.1), .int .i64 x.2] 63)) (wr.alloc (.cells #[.string (bs x.1), .int .i64 x.2] 63)).heap.size 2 (some ⟨wr.heap.size, 0, none⟩) 1 (flatT [x])) := Lib.hid (Reads.two wr _ _ _)
        have hg9 : Gr wr (wr.alloc (.cells #[.string (bs x.1), .int .i64 x.2] 63)) := Gr.alloc _ _
        have hw9 := Lib.hid (hg.out.trans hg9)
        have ho9 := row_below ho.out hg9
        rw [← hm.out] at ho9
        replace ho9 := Lib.hid ho9
        clear ho hg9
        go_wp2_with (at_builtin; go_must (refine wpl_appM rfl (.tmp 21) (.tmp 26) rfl B0 (.slice A1 (delP (L.take j) k).length c1) (delP (L.take j) k) (by rw [hm.out]; rfl) ho9.out (some ⟨wr.heap.size, 0, none⟩) 1 [x] rfl hr9.out (by have := hm.out; have := hml.out; simp; omega) (hlow.out _ hw9.out) ?_); intro v8 w8 ho8 hg8 hloc8; have hb8 := (Below.refl B0 _).grown hg8 (hlow.out _ hw9.out) (fun q hq => (World.ownsRow.lt ho9.out q hq).1); replace hb8 := Lib.hid (hgo.out _ _ hw9.out hb8); obtain ⟨A8, c8, rfl, -, -⟩ := row_form ho8; have hl8 : (delP (L.take j) k ++ [x]).length = m + 1 := (by rw [List.length_append, hm.out]; rfl); rw [hl8] at ho8 ⊢; replace ho8 := Lib.hid ho8; replace hl8 := Lib.hid hl8; clear hg8 hloc8)
        go_roundw
        case rel => exact ⟨j + 1, m + 1, A8, c8, by omega, rfl, by go_num, Lib.hid (by rw [hdt2.out]; exact hl8.out), Lib.hid (by rw [hdt2.out]; exact ho8.out), hb8⟩
        case measure => simp [intOf]; omega
    · obtain rfl : n = j := by omega
      have e : L.take n = L := List.take_of_length_le (by rw [hn.out]; exact Nat.le_refl _)
      rw [e] at ho hm
      go_wp2_with fail
      go_ret
      exact ⟨_, rfl, by rw [hm.out]; exact ho.out, hg.out⟩
section
variable {w : World} {lo g : Nat} {y : RcX} {c : CtP}
theorem Rc.rows (h : Rc w lo g y c) (j : Nat) (u : Value) : (w.setCell ⟨g, j, none⟩ u).ownsRow lo 58 2 y.vW c.W.length (flatB c.W) ∧ OE y.E y.vH lo (w.setCell ⟨g, j, none⟩ u) ∧ (w.setCell ⟨g, j, none⟩ u).ownsRow lo 63 2 y.vB c.B.length (flatT c.B) ∧ (w.setCell ⟨g, j, none⟩ u).ownsRow lo 63 2 y.vT c.T.length (flatT c.T) ∧ OZ c.R y.vR lo (w.setCell ⟨g, j, none⟩ u) :=
  ⟨row_set_other h.ws g j u (row_ne h.ws h.blk (by decide)), ⟨row_set_other h.hs.1 g j u (row_ne h.hs.1 h.blk (by decide)), fun x hx => ⟨row_set_other (h.hs.2 x hx).1 g j u (row_ne (h.hs.2 x hx).1 h.blk (by decide)), (h.hs.2 x hx).2⟩⟩,
    row_set_other h.bs g j u (row_ne h.bs h.blk (by decide)), row_set_other h.ts g j u (row_ne h.ts h.blk (by decide)), row_set_other h.rs g j u (row_ne h.rs h.blk (by decide))⟩
theorem Rc.setW (h : Rc w lo g y c) {W' : List (By × By)} {v : Value} (hv : w.ownsRow lo 58 2 v W'.length (flatB W')) : Rc (w.setCell ⟨g, 0, none⟩ v) lo g { y with vW := v } { c with W := W' } := by
  obtain ⟨h1, h2, h3, h4, h5⟩ := h.rows 0 v
  exact ⟨blk_set h.blk 0 v, h.lg, row_set_other hv g 0 v (row_ne hv h.blk (by decide)), h2, h.he, h3, h4, h5⟩
theorem Rc.setE (h : Rc w lo g y c) {E' : List (By × EnP)} {E2 : List Et} {v : Value} (hv : OE E2 v lo w) (he : E2.map (·.e) = E'.map Prod.snd) : Rc (w.setCell ⟨g, 1, none⟩ v) lo g { y with vH := v, E := E2 } { c with E := E' } := by
  obtain ⟨h1, h2, h3, h4, h5⟩ := h.rows 1 v
  exact ⟨blk_set h.blk 1 v, h.lg, h1, ⟨row_set_other hv.1 g 1 v (row_ne hv.1 h.blk (by decide)), fun x hx => ⟨row_set_other (hv.2 x hx).1 g 1 v (row_ne (hv.2 x hx).1 h.blk (by decide)), (hv.2 x hx).2⟩⟩, he, h3, h4, h5⟩
theorem Rc.setB (h : Rc w lo g y c) {B' : List (By × Int)} {v : Value} (hv : w.ownsRow lo 63 2 v B'.length (flatT B')) : Rc (w.setCell ⟨g, 2, none⟩ v) lo g { y with vB := v } { c with B := B' } := by
  obtain ⟨h1, h2, h3, h4, h5⟩ := h.rows 2 v
  exact ⟨blk_set h.blk 2 v, h.lg, h1, h2, h.he, row_set_other hv g 2 v (row_ne hv h.blk (by decide)), h4, h5⟩
theorem Rc.setT (h : Rc w lo g y c) {T' : List (By × Int)} {v : Value} (hv : w.ownsRow lo 63 2 v T'.length (flatT T')) : Rc (w.setCell ⟨g, 3, none⟩ v) lo g { y with vT := v } { c with T := T' } := by
  obtain ⟨h1, h2, h3, h4, h5⟩ := h.rows 3 v
  exact ⟨blk_set h.blk 3 v, h.lg, h1, h2, h.he, h3, row_set_other hv g 3 v (row_ne hv h.blk (by decide)), h5⟩
theorem Rc.setR (h : Rc w lo g y c) {R' : List Int} {v : Value} (hv : OZ R' v lo w) : Rc (w.setCell ⟨g, 4, none⟩ v) lo g { y with vR := v } { c with R := R' } := by
  obtain ⟨h1, h2, h3, h4, h5⟩ := h.rows 4 v
  exact ⟨blk_set h.blk 4 v, h.lg, h1, h2, h.he, h3, h4, row_set_other hv g 4 v (row_ne hv h.blk (by decide))⟩
theorem Rc.setG (h : Rc w lo g y c) (G' : Int) : Rc (w.setCell ⟨g, 5, none⟩ (.int .i64 G')) lo g y { c with G := G' } := by
  obtain ⟨h1, h2, h3, h4, h5⟩ := h.rows 5 (.int .i64 G')
  exact ⟨blk_set h.blk 5 _, h.lg, h1, h2, h.he, h3, h4, h5⟩
end
/-- an act on the reference's catalog -/
def RcAct (lo g : Nat) (y : RcX) (w : World) (c' : CtP) (w' : World) : Prop := ∃ y', Hid (Rc w' lo g y' c') ∧ Upd (y.S g) w w' ∧ ∀ q, y'.S g q → y.S g q ∨ w.heap.size ≤ q
end Go.Proofs.YthboeoidgglcgaaGreat
