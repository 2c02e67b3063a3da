/- cat: where a tomb is. -/
import Derived.Test.YthboeoidgglcgaaGreatCtA
import Derived.LoopTactic
import Derived.Deep.DeepCutAuto
namespace Go.Proofs.YthboeoidgglcgaaGreat
set_option linter.unusedVariables false
set_option linter.unusedSimpArgs false
open Go Go.RowKit Go.Maps
def IdxT (x : By × Int) (l : List (By × Int)) (w : World) (e : Ending) (w' : World) : Prop :=
  Below w.heap.size w w' ∧ ((e = .returned (.int .i64 (-1)) ∧ x ∉ l) ∨
    ∃ k, e = .returned (.int .i64 (k : Nat)) ∧ l[k]? = some x ∧ ∀ j, j < k → l[j]? ≠ some x)
set_option maxHeartbeats 2000000 in
set_option maxRecDepth 10000 in
theorem index_T (lo : Nat) (key : By) (gen : Int) (A : Option Addr) (n c : Nat) (l : List (By × Int)) (hn : l.length = n) (hnm : n ≤ 1000000) (w : World) (h : TRow w lo (.slice A n c) l) :
    Calls Tryz.prog 53 #[.slice A n c, .agg #[.string (bs key), .int .i64 gen]] w (IdxT (key, gen) l w) := by
  obtain ⟨N, hN⟩ : ∃ N, w.heap.size = N := ⟨_, rfl⟩
  obtain ⟨w0, hw0⟩ : ∃ w0, w.alloc (.cells #[.string (bs key), .int .i64 gen] 83) = w0 := ⟨_, rfl⟩
  have hx0 : w0.heap[N]? = some (.cells #[.string (bs key), .int .i64 gen] 83 (0, 0)) := by rw [← hw0, ← hN]; exact heap_alloc_new w _
  have hb0 : Below N w w0 := by rw [← hw0, ← hN]; exact (Below.refl _ w).alloc (Nat.le_refl _) _
  have hbN : Hid (∀ x, Below w0.heap.size w0 x → Below N w x) := Lib.hid (fun x hx => hb0.trans (hx.mono (by rw [← hw0]; simp; omega)))
  have h0 : Hid (TRow w0 lo (.slice A n c) l) := Lib.hid (by rw [← hw0]; exact row_below h ((Below.refl _ w).alloc (Nat.le_refl _) _))
  replace hx0 := Lib.hid hx0
  replace hn := Lib.hid hn
  unfold IdxT
  rw [hN]
  clear h hb0
  go_enter Tryz.func53, Tryz.ntmps53
  go_upto_region 1 with (fail)
  replace hw0 := Lib.hid hw0
  replace hN := Lib.hid hN
  go_wp2_with fail
  go_loopw [8] (fun i wr => ∃ k : Nat, i = .int .i64 k ∧ k ≤ n ∧ Hid (∀ j, j < k → l[j]? ≠ some (key, gen)) ∧ Hid (Below w0.heap.size w0 wr)) (fun i _ => n - (intOf i).toNat)
  case atStart => exact ⟨0, rfl, Nat.zero_le _, Lib.hid (fun j hj => absurd hj (by omega)), Lib.hid (Below.refl _ _)⟩
  case round =>
    obtain ⟨k, rfl, hk, hall, hb⟩ := hrel
    by_cases hlt : k < n
    · obtain ⟨q, hq⟩ : ∃ q, l[k]? = some q := ⟨_, List.getElem?_eq_getElem (by rw [hn.out]; exact hlt)⟩
      have hrow : TRow wr lo (.slice A n c) l := row_below h0.out hb.out
      obtain ⟨b, c', he, -, hcm, -, hbw, -, -, hcell, -⟩ := row_at hrow (by rw [hn.out]; omega)
      have he' : A = some ⟨b, 0, none⟩ := by injection he
      subst he'
      clear he
      have ha := flatT_at hq
      have x0 : wr.cell? ⟨b, k * 2, none⟩ = some (.string (bs q.1)) := hcell _ _ ha.1
      have x1 : wr.cell? ⟨b, k * 2 + 1, none⟩ = some (.int .i64 q.2) := hcell _ _ ha.2
      have hxw := blk_below hx0.out hb.out
      clear ha hcell hrow
      obtain ⟨qk, qg⟩ := q
      simp only at x0 x1
      obtain ⟨wd, hwd⟩ : ∃ wd, wd = wr.drew := ⟨_, rfl⟩
      have y0 : wd.cell? ⟨b, k * 2, none⟩ = some (.string (bs qk)) := by rw [hwd]; exact x0
      have y1 : wd.cell? ⟨b, k * 2 + 1, none⟩ = some (.int .i64 qg) := by rw [hwd]; exact x1
      have z0 : wd.cell? ⟨N, 0, none⟩ = some (.string (bs key)) := by rw [hwd]; exact blk_cell (j := 0) hxw rfl
      have z1 : wd.cell? ⟨N, 1, none⟩ = some (.int .i64 gen) := by rw [hwd]; exact blk_cell (j := 1) hxw rfl
      have hbd : Hid (Below w0.heap.size w0 wd) := Lib.hid (by rw [hwd]; exact hb.out.trans ((Below.refl _ _).drew))
      clear x0 x1 hxw hb
      replace hq := Lib.hid hq
      by_cases e1 : key = qk
      · subst e1
        by_cases e2 : gen = qg
        · subst e2
          go_upto_region 4 with (fail)
          refine wpR_region (Eq) 9999 (by kernel_rfl) ?_
          (rw [← hwd]; replace hwd := Lib.hid hwd)
          refine wT (i := 0) (v := ?_) (⟨fun _ => rfl, Eq.trans⟩) (some 11) rfl (fun w' hw' => ?_) ?_
          rotate_left
          · subst hw'; go_simp; with_reducible rfl
          simp only [Act.put, List.setIfInBounds_toArray, List.set_cons_zero, List.set_cons_succ]
          refine wT (i := 1) (v := ?_) (⟨fun _ => rfl, Eq.trans⟩) (some 12) rfl (fun w' hw' => ?_) ?_
          rotate_left
          · go_simp; with_reducible rfl
          simp only [Act.put, List.setIfInBounds_toArray, List.set_cons_zero, List.set_cons_succ]
          refine wT (i := 2) (v := ?_) (⟨fun _ => rfl, Eq.trans⟩) (some 13) rfl (fun w' hw' => ?_) ?_
          rotate_left
          · go_simp; with_reducible rfl
          simp only [Act.put, List.setIfInBounds_toArray, List.set_cons_zero, List.set_cons_succ]
          refine wT (i := 3) (v := ?_) (⟨fun _ => rfl, Eq.trans⟩) (some 14) rfl (fun w' hw' => ?_) ?_
          rotate_left
          · go_simp; with_reducible rfl
          simp only [Act.put, List.setIfInBounds_toArray, List.set_cons_zero, List.set_cons_succ]
          refine wT (i := 4) (v := ?_) (⟨fun _ => rfl, Eq.trans⟩) (some 15) rfl (fun w' hw' => ?_) ?_
          rotate_left
          · subst hw'; go_simp; with_reducible rfl
          simp only [Act.put, List.setIfInBounds_toArray, List.set_cons_zero, List.set_cons_succ]
          refine wT (i := 5) (v := ?_) (⟨fun _ => rfl, Eq.trans⟩) (some 16) rfl (fun w' hw' => ?_) ?_
          rotate_left
          · go_simp; with_reducible rfl
          simp only [Act.put, List.setIfInBounds_toArray, List.set_cons_zero, List.set_cons_succ]
          refine wpR_done (by kernel_rfl) ?_ _
          go_wp2_with fail
          go_ret
          exact ⟨hbN.out _ hbd.out, .inr ⟨k, rfl, hq.out, hall.out⟩⟩
        · have e2b : (gen == qg) = false := beq_false_of_ne e2
          have hnext : Hid (∀ j, j < k + 1 → l[j]? ≠ some (key, gen)) := Lib.hid (fun j hj => by
            by_cases e : j = k
            · rw [e, hq.out]; intro h; injection h with h; injection h with _ h; exact e2 h.symm
            · exact hall.out j (by omega))
          replace e2 := Lib.hid e2
          go_upto_region 4 with (fail)
          refine wpR_region (Eq) 9999 (by kernel_rfl) ?_
          (rw [← hwd]; replace hwd := Lib.hid hwd)
          refine wT (i := 0) (v := ?_) (⟨fun _ => rfl, Eq.trans⟩) (some 11) rfl (fun w' hw' => ?_) ?_
          rotate_left
          · subst hw'; go_simp; with_reducible rfl
          simp only [Act.put, List.setIfInBounds_toArray, List.set_cons_zero, List.set_cons_succ]
          refine wT (i := 1) (v := ?_) (⟨fun _ => rfl, Eq.trans⟩) (some 12) rfl (fun w' hw' => ?_) ?_
          rotate_left
          · go_simp; with_reducible rfl
          simp only [Act.put, List.setIfInBounds_toArray, List.set_cons_zero, List.set_cons_succ]
          refine wT (i := 2) (v := ?_) (⟨fun _ => rfl, Eq.trans⟩) (some 13) rfl (fun w' hw' => ?_) ?_
          rotate_left
          · go_simp; with_reducible rfl
          simp only [Act.put, List.setIfInBounds_toArray, List.set_cons_zero, List.set_cons_succ]
          refine wT (i := 3) (v := ?_) (⟨fun _ => rfl, Eq.trans⟩) (some 14) rfl (fun w' hw' => ?_) ?_
          rotate_left
          · go_simp; with_reducible rfl
          simp only [Act.put, List.setIfInBounds_toArray, List.set_cons_zero, List.set_cons_succ]
          refine wT (i := 4) (v := ?_) (⟨fun _ => rfl, Eq.trans⟩) (some 15) rfl (fun w' hw' => ?_) ?_
          rotate_left
          · subst hw'; go_simp; with_reducible rfl
          simp only [Act.put, List.setIfInBounds_toArray, List.set_cons_zero, List.set_cons_succ]
          refine wT (i := 5) (v := ?_) (⟨fun _ => rfl, Eq.trans⟩) (some 16) rfl (fun w' hw' => ?_) ?_
          rotate_left
          · go_simp; with_reducible rfl
          simp only [Act.put, List.setIfInBounds_toArray, List.set_cons_zero, List.set_cons_succ]
          refine wpR_done (by kernel_rfl) ?_ _
          go_wp2_with fail
          go_roundw
          case rel => exact ⟨k + 1, by go_num, by omega, hnext, hbd⟩
          case measure => simp [intOf]; omega
      · have hnext : Hid (∀ j, j < k + 1 → l[j]? ≠ some (key, gen)) := Lib.hid (fun j hj => by
          by_cases e : j = k
          · rw [e, hq.out]; intro h; injection h with h; injection h with h _; exact e1 h.symm
          · exact hall.out j (by omega))
        go_upto_region 4 with (fail)
        refine wpR_region (Eq) 9999 (by kernel_rfl) ?_
        (rw [← hwd]; replace hwd := Lib.hid hwd)
        refine wT (i := 0) (v := ?_) (⟨fun _ => rfl, Eq.trans⟩) (some 11) rfl (fun w' hw' => ?_) ?_
        rotate_left
        · subst hw'; go_simp; with_reducible rfl
        simp only [Act.put, List.setIfInBounds_toArray, List.set_cons_zero, List.set_cons_succ]
        refine wT (i := 1) (v := ?_) (⟨fun _ => rfl, Eq.trans⟩) (some 12) rfl (fun w' hw' => ?_) ?_
        rotate_left
        · go_simp; with_reducible rfl
        simp only [Act.put, List.setIfInBounds_toArray, List.set_cons_zero, List.set_cons_succ]
        refine wT (i := 2) (v := ?_) (⟨fun _ => rfl, Eq.trans⟩) (some 13) rfl (fun w' hw' => ?_) ?_
        rotate_left
        · go_simp; with_reducible rfl
        simp only [Act.put, List.setIfInBounds_toArray, List.set_cons_zero, List.set_cons_succ]
        refine wT (i := 3) (v := ?_) (⟨fun _ => rfl, Eq.trans⟩) (some 14) rfl (fun w' hw' => ?_) ?_
        rotate_left
        · go_simp; with_reducible rfl
        simp only [Act.put, List.setIfInBounds_toArray, List.set_cons_zero, List.set_cons_succ]
        refine wT (i := 4) (v := ?_) (⟨fun _ => rfl, Eq.trans⟩) (some 15) rfl (fun w' hw' => ?_) ?_
        rotate_left
        · subst hw'; go_simp; with_reducible rfl
        simp only [Act.put, List.setIfInBounds_toArray, List.set_cons_zero, List.set_cons_succ]
        refine wT (i := 5) (v := ?_) (⟨fun _ => rfl, Eq.trans⟩) (some 16) rfl (fun w' hw' => ?_) ?_
        rotate_left
        · go_simp; with_reducible rfl
        simp only [Act.put, List.setIfInBounds_toArray, List.set_cons_zero, List.set_cons_succ]
        refine wpR_done (by kernel_rfl) ?_ _
        go_wp2_with fail
        go_roundw
        case rel => exact ⟨k + 1, by go_num, by omega, hnext, hbd⟩
        case measure => simp [intOf]; omega
    · obtain rfl : k = n := by omega
      go_wp2_with fail
      go_ret
      refine ⟨hbN.out _ hb.out, .inl ⟨rfl, fun hx => ?_⟩⟩
      obtain ⟨j, hj, e⟩ := List.getElem_of_mem hx
      exact hall.out j (by rw [← hn.out]; exact hj) (by rw [List.getElem?_eq_getElem hj, e])
end Go.Proofs.YthboeoidgglcgaaGreat
/- cat: its maps: a look, a store, a key struck. -/
namespace Go.Proofs.YthboeoidgglcgaaGreat
set_option linter.unusedVariables false
set_option linter.unusedSimpArgs false
set_option linter.unusedSectionVars false
open Go Go.RowKit Go.Maps
section
variable {K V : Type} [BEq K] [LawfulBEq K]
def getP (L : List (K × V)) (k : K) (z : V) : V := match L.find? (fun e => e.1 == k) with | some e => e.2 | none => z
theorem getP_no {L : List (K × V)} {k : K} (h : hasP L k = false) (z : V) : getP L k z = z := by
  unfold getP
  rw [List.find?_eq_none.2 (fun e he => by
    intro hc
    have := (hasP_iff L k).mpr ⟨e, he, eq_of_beq hc⟩
    rw [h] at this; cases this)]
theorem getP_mem {L : List (K × V)} (hd : DistP L) {k : K} {v : V} (h : (k, v) ∈ L) (z : V) : getP L k z = v := by
  unfold getP
  cases hf : L.find? (fun e => e.1 == k) with
  | none => exact absurd (List.find?_eq_none.1 hf _ h) (by simp)
  | some e =>
    have h1 := List.mem_of_find?_eq_some hf
    have h2 := eq_of_beq (List.find?_some (p := fun e : K × V => e.1 == k) hf)
    show e.2 = v
    unfold DistP at hd
    rw [List.pairwise_iff_getElem] at hd
    obtain ⟨i, hi, e1⟩ := List.getElem_of_mem h1
    obtain ⟨j, hj, e2⟩ := List.getElem_of_mem h
    by_cases hij : i = j
    · subst hij
      rw [e1] at e2
      rw [e2]
    · rcases Nat.lt_or_gt_of_ne hij with hl | hl
      · exact absurd (by rw [e1, e2]; exact h2) (hd i j hi hj hl)
      · exact absurd (by rw [e1, e2]; exact h2.symm) (hd j i hj hi hl)
theorem hasP_mem {L : List (K × V)} {k : K} (h : hasP L k = true) : ∃ v, (k, v) ∈ L := by
  obtain ⟨e, he, rfl⟩ := (hasP_iff L k).mp h
  exact ⟨e.2, he⟩
end
section
variable {K : Type} [BEq K] [LawfulBEq K] {w : World} {kt T et b t : Nat} {c : KC K} {L : List (K × Value)} {kv : Value} {k : K}
theorem MapB.look (h : MapB w kt c b t L) (hK : Keyed Tryz.prog kt) (hT : Tryz.prog.underlying T = some (.map kt et)) {z : Value} (hz : ∀ w, (zeroValue et).run Tryz.prog w = .ok z w) (hkey : keyOf Tryz.prog kt kv = some (c.lit k)) :
    (Instr.lookup T (.map (some b)) kv true).run Tryz.prog w = .ok (.tuple #[getP L k z, .bool (hasP L k)]) w := by
  obtain ⟨n, D, -, ho, hr⟩ := h
  obtain ⟨v, ps, hrun, hv⟩ := ho.look_ok hK hT (hz w) (zd := .held z) (zp := []) rfl hkey
  rw [hr.has] at hrun
  rw [hrun]
  have : v = getP L k z := by
    cases hh : hasP L k with
    | false =>
      rw [atKey_of_not_has (by rw [hr.has]; exact hh)] at hv
      rw [getP_no hh]
      exact RV_inv hv
    | true =>
      obtain ⟨u, hu⟩ := hasP_mem hh
      rw [hr.get hu] at hv
      rw [getP_mem hr.dist hu]
      exact RV_inv hv
  rw [this]
theorem MapB.store (h : MapB w kt c b t L) (hK : Keyed Tryz.prog kt) (hT : Tryz.prog.underlying T = some (.map kt et)) (ht : t < 1000000) (hkey : keyOf Tryz.prog kt kv = some (c.lit k)) (val : Value) :
    ∃ w', (Instr.mapUpdate T (.map (some b)) kv val).run Tryz.prog w = .ok () w' ∧ MapB w' kt c b (t + 1) (delP L k ++ [(k, val)]) ∧ w.grownBy w' (some b) := by
  obtain ⟨n, D, hn, ho, hr⟩ := h
  obtain ⟨w', hrun, ho', hg⟩ := ho.update hK hT (by simp only [maxLen]; omega) hkey (val := val) (show RV val = some (.held val, []) from rfl)
  exact ⟨w', hrun, ⟨n + 1, _, by omega, ho', hr.put k val⟩, hg⟩
theorem MapB.drop (h : MapB w kt c b t L) (hK : Keyed Tryz.prog kt) (hT : Tryz.prog.underlying T = some (.map kt et)) (hkey : keyOf Tryz.prog kt kv = some (c.lit k)) (ty : TypeId) :
    ∃ w', (Builtin.delete_ #[T, kt] ty #[.map (some b), kv]).run Tryz.prog w = .ok (.tuple #[]) w' ∧ MapB w' kt c b t (delP L k) ∧ w.grownBy w' (some b) := by
  obtain ⟨n, D, hn, ho, hr⟩ := h
  obtain ⟨w', hrun, ho', hg⟩ := ho.drop hK hT hkey ty
  exact ⟨w', hrun, ⟨n, _, hn, ho', hr.del k⟩, hg.grown⟩
theorem MapB.perm {L' : List (K × Value)} (h : MapB w kt c b t L) (hp : L.Perm L') : MapB w kt c b t L' := by
  obtain ⟨n, D, hn, ho, hr⟩ := h
  exact ⟨n, D, hn, ho, hr.perm hp⟩
theorem MapB.dist (h : MapB w kt c b t L) : DistP L := by
  obtain ⟨n, D, hn, ho, hr⟩ := h; exact hr.dist
end
theorem lawS : Keyed Tryz.prog 9 := string_keyed Tryz.underlying9
theorem lawI : Keyed Tryz.prog 3 := int_keyed Tryz.underlying3
theorem keyS {k : List UInt8} (h : k.length ≤ maxLen) : keyOf Tryz.prog 9 (.string (bs k)) = some (KS.lit k) := by
  rw [Go.WideMaps.keyOf_string_mk Tryz.underlying9 (by show (bs k).size ≤ maxLen; unfold bs; exact h)]
  unfold bs KS; simp
theorem wfI {x : Int} (h : I64 x) : (Lit.int .i64 x).wf = true := WalkArith.wf_i64 (by unfold I64 at h; omega)
theorem keyI {z : Int} (h : I64 z) : keyOf Tryz.prog 3 (.int .i64 z) = some (KI.lit z) := keyOf_int_mk Tryz.underlying3 (wfI h)
def entZ : Value := .agg #[.string ⟨#[]⟩, .int .i64 0, .int .i64 0, .string ⟨#[]⟩, .slice none 0 0]
theorem zeroE (w : World) : (zeroValue 43).run Tryz.prog w = .ok entZ w := by kernel_rfl
theorem zeroI (w : World) : (zeroValue 3).run Tryz.prog w = .ok (.int .i64 0) w := by kernel_rfl
end Go.Proofs.YthboeoidgglcgaaGreat
/- cat: what it answers without turning anything. -/
namespace Go.Proofs.YthboeoidgglcgaaGreat
set_option linter.unusedVariables false
set_option linter.unusedSimpArgs false
open Go Go.RowKit Go.Maps
set_option maxRecDepth 10000 in
theorem fitKey_any (k : By) (hk : k.length ≤ maxLen) (w : World) : Calls Tryz.prog 47 #[.string (bs k)] w fun e w' => e = .returned (.bool (keyOk k)) ∧ w' = w := by
  have hs : (bs k).size = k.length := rfl
  have hc := in_any (k.length : Int) 1 16 w
  have e : inB (k.length : Int) 1 16 = keyOk k := by unfold keyOk inB; congr 1 <;> (apply decide_eq_decide.mpr; omega)
  rw [e] at hc
  replace hc := Lib.hid hc
  go_enter Tryz.func47, Tryz.ntmps47
  go_wp2_with (go_at_call 52; go_must (refine hc.out.mono ?_); rintro e w' ⟨rfl, hee⟩; rw [hee]; clear hee)
  go_ret
  exact ⟨rfl, rfl⟩
set_option maxRecDepth 10000 in
theorem fitGroups_any (z : Int) (w : World) : Calls Tryz.prog 48 #[.int .i64 z] w fun e w' => e = .returned (.int .i64 (grp z)) ∧ w' = w := by
  have hc := in_any z 0 512 w
  unfold inB at hc
  unfold grp
  by_cases h : z < 0 ∨ 512 < z
  · have e : (decide ((0 : Int) ≤ z) && decide (z ≤ 512)) = false := by
      rcases h with h | h
      · rw [decide_eq_false (by omega : ¬ (0 : Int) ≤ z)]; rfl
      · rw [decide_eq_false (by omega : ¬ z ≤ 512), Bool.and_false]
    rw [e] at hc
    replace hc := Lib.hid hc
    rw [if_pos h]
    clear h e
    go_enter Tryz.func48, Tryz.ntmps48
    go_wp2_with (go_at_call 52; go_must (refine hc.out.mono ?_); rintro e w' ⟨rfl, hee⟩; rw [hee]; clear hee)
    go_ret
    exact ⟨rfl, rfl⟩
  · obtain ⟨m, rfl⟩ : ∃ m : Nat, z = m := ⟨z.toNat, by omega⟩
    have hm : m ≤ 512 := by omega
    have e : (decide ((0 : Int) ≤ (m : Int)) && decide ((m : Int) ≤ 512)) = true := by
      rw [decide_eq_true (by omega : (0 : Int) ≤ (m : Int)), decide_eq_true (by omega : (m : Int) ≤ 512)]; rfl
    rw [e] at hc
    replace hc := Lib.hid hc
    rw [if_neg h]
    obtain ⟨q, hq⟩ : ∃ q, (m + 127) / 128 = q := ⟨_, rfl⟩
    have hdv : ((m : Int) + 127).tdiv 128 = (q : Int) := by rw [Int.tdiv_eq_ediv_of_nonneg (by omega)]; omega
    have hq4 : q ≤ 4 := by omega
    have w1 : IntKind.i64.wrap ((m : Int) + 128) = (m : Int) + 128 := by rw [IntKind.wrap_i64]; omega
    have w2 : IntKind.i64.wrap ((m : Int) + 128 - 1) = (m : Int) + 127 := by rw [IntKind.wrap_i64]; omega
    have w3 : IntKind.i64.wrap (q : Int) = (q : Int) := i64_wrap _ (by omega)
    have hmx : Hid (max 1 ((Int.toNat (m : Int) + 127) / 128) = max 1 q) := Lib.hid (by rw [show Int.toNat (m : Int) = m from rfl, hq])
    rw [hmx.out]
    replace hq := Lib.hid hq
    clear h e
    by_cases h1 : 1 < q
    · have j1 : (if (1 : Int) < (q : Int) then Value.int .i64 (q : Int) else Value.int .i64 1) = .int .i64 (q : Int) := if_pos (by omega)
      have e9 : Hid (max 1 q = q) := Lib.hid (by omega)
      rw [e9.out]
      have h1i : (1 : Int) < (q : Int) := by omega
      go_enter Tryz.func48, Tryz.ntmps48
      go_wp2_with (go_at_call 52; go_must (refine hc.out.mono ?_); rintro e w' ⟨rfl, hee⟩; rw [hee]; clear hee)
      all_goals go_ret
      all_goals exact ⟨by simp; try omega, rfl⟩
    · have e9 : Hid (max 1 q = 1) := Lib.hid (by omega)
      rw [e9.out]
      have h1i : ¬ (1 : Int) < (q : Int) := by omega
      go_enter Tryz.func48, Tryz.ntmps48
      go_wp2_with (go_at_call 52; go_must (refine hc.out.mono ?_); rintro e w' ⟨rfl, hee⟩; rw [hee]; clear hee)
      all_goals go_ret
      all_goals exact ⟨by simp; try omega, rfl⟩
section
variable (lo g t : Nat) (x : CtX) (c : CtP) (w : World) (h : Hid (Ca w lo g x c t))
include h
set_option maxRecDepth 10000 in
theorem cgen_any : Calls Tryz.prog 39 #[.pointer (some ⟨g, 0, none⟩)] w fun e w' => e = .returned (.int .i64 c.G) ∧ w' = w := by
  have c5 := blk_cell (j := 5) h.out.blk rfl
  clear h
  go_enter Tryz.func39, Tryz.ntmps39
  go_wp2_with fail
  go_ret
  exact ⟨rfl, rfl⟩
set_option maxRecDepth 10000 in
theorem later_any (z : Int) : Calls Tryz.prog 51 #[.pointer (some ⟨g, 0, none⟩), .int .i64 z] w fun e w' => e = .returned (.bool (c.later z)) ∧ w' = w := by
  have c5 := blk_cell (j := 5) h.out.blk rfl
  unfold CtP.later
  generalize c.G = G at c5
  clear h
  by_cases h1 : G < z
  · rw [decide_eq_true h1, Bool.true_and]
    go_enter Tryz.func51, Tryz.ntmps51
    go_wp2_with fail
    go_ret
    exact ⟨by first | rfl | simp, rfl⟩
  · have i1 : decide (G < z) = false := decide_eq_false h1
    rw [i1, Bool.false_and]
    clear h1
    go_enter Tryz.func51, Tryz.ntmps51
    go_wp2_with fail
    go_ret
    exact ⟨by first | rfl | simp, rfl⟩
/-- where a blob is staged -/
def AtW (x : CtX) (k : By) (w : World) (e : Ending) (w' : World) : Prop :=
  Gr w w' ∧ ((e = .returned (.int .i64 (-1)) ∧ x.W.any (fun e => e.k == k) = false) ∨ ∃ i q, e = .returned (.int .i64 (i : Nat)) ∧ x.W[i]? = some q ∧ q.k = k ∧ x.W.any (fun e => e.k == k) = true)
set_option maxRecDepth 10000 in
theorem stagedAt_any (ht : t ≤ 1000) (k : By) : Calls Tryz.prog 44 #[.pointer (some ⟨g, 0, none⟩), .string (bs k)] w (AtW x k w) := by
  obtain ⟨A, cp, hv⟩ : ∃ A cp, x.vs = .slice A x.W.length cp := by obtain ⟨A, cp, _, _, e, -⟩ := h.out.form; exact ⟨A, cp, e⟩
  obtain ⟨w0, hw0⟩ : ∃ w0, w.alloc (.cells #[.string (bs k)] 9) = w0 := ⟨_, rfl⟩
  have hg0 : Gr w w0 := by rw [← hw0]; exact Gr.alloc _ _
  have hc0 := h.out.gr hg0
  have hbk := hc0.blk
  rw [hv] at hbk
  have c0 := blk_cell (j := 0) hbk rfl
  have hx : w0.cell? ⟨w.heap.size, 0, none⟩ = some (.string (bs k)) := by rw [← hw0]; exact blk_cell (j := 0) (heap_alloc_new w _) rfl
  have hsz : w.heap.size < w0.heap.size := by rw [← hw0]; simp
  have hrow : WRow w0 lo (.slice A x.W.length cp) x.W := by rw [← hv]; exact hc0.ws
  have hlen : x.W.length ≤ 1000000 := by have h1 := h.out.few.1; rw [h.out.wc, List.length_map] at h1; omega
  have hi := index_stag lo w.heap.size k A x.W.length cp x.W rfl hlen w0 hsz hx hrow
  unfold stagF at hi
  replace hi := Lib.hid hi
  replace hg0 := Lib.hid hg0
  replace hbk := Lib.hid hbk
  replace hx := Lib.hid hx
  replace hrow := Lib.hid hrow
  replace hc0 := Lib.hid hc0
  replace hv := Lib.hid hv
  generalize x.W.length = n at c0 hi
  clear h
  go_enter Tryz.func44, Tryz.ntmps44
  go_wp2_with (go_at_call 63; go_must (refine hi.out.mono ?_); clear hi; rintro e w5 ⟨hb5, ⟨rfl, hno⟩ | ⟨i, q, rfl, hq, hqk, -⟩⟩)
  · go_ret
    refine ⟨hg0.out.trans hb5, .inl ⟨rfl, ?_⟩⟩
    rw [List.any_eq_false]
    intro e he hc
    exact hno e he (eq_of_beq hc)
  · go_ret
    refine ⟨hg0.out.trans hb5, .inr ⟨i, q, rfl, hq, hqk, ?_⟩⟩
    rw [List.any_eq_true]
    exact ⟨q, List.mem_of_getElem? hq, by simp [hqk]⟩
end
end Go.Proofs.YthboeoidgglcgaaGreat
