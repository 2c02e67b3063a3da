/- cat: its maps: a look, a store, a key struck. -/
import Derived.Test.YthboeoidgglcgaaCt4
import Derived.LoopTactic
namespace Go.Proofs.Ythboeoidgglcgaa
set_option linter.unusedVariables false
set_option linter.unusedSimpArgs false
set_option linter.unusedSectionVars false
open Go Go.RowKit Go.Maps
section
variable {K V : Type} [BEq K] [LawfulBEq K]
def getP (L : List (K × V)) (k : K) (z : V) : V := match L.find? (fun e => e.1 == k) with | some e => e.2 | none => z
theorem getP_no {L : List (K × V)} {k : K} (h : hasP L k = false) (z : V) : getP L k z = z := by
  unfold getP
  rw [List.find?_eq_none.2 (fun e he => by
    intro hc
    have := (hasP_iff L k).mpr ⟨e, he, eq_of_beq hc⟩
    rw [h] at this; cases this)]
theorem getP_mem {L : List (K × V)} (hd : DistP L) {k : K} {v : V} (h : (k, v) ∈ L) (z : V) : getP L k z = v := by
  unfold getP
  cases hf : L.find? (fun e => e.1 == k) with
  | none => exact absurd (List.find?_eq_none.1 hf _ h) (by simp)
  | some e =>
    have h1 := List.mem_of_find?_eq_some hf
    have h2 := eq_of_beq (List.find?_some (p := fun e : K × V => e.1 == k) hf)
    show e.2 = v
    unfold DistP at hd
    rw [List.pairwise_iff_getElem] at hd
    obtain ⟨i, hi, e1⟩ := List.getElem_of_mem h1
    obtain ⟨j, hj, e2⟩ := List.getElem_of_mem h
    by_cases hij : i = j
    · subst hij
      rw [e1] at e2
      rw [e2]
    · rcases Nat.lt_or_gt_of_ne hij with hl | hl
      · exact absurd (by rw [e1, e2]; exact h2) (hd i j hi hj hl)
      · exact absurd (by rw [e1, e2]; exact h2.symm) (hd j i hj hi hl)
theorem hasP_mem {L : List (K × V)} {k : K} (h : hasP L k = true) : ∃ v, (k, v) ∈ L := by
  obtain ⟨e, he, rfl⟩ := (hasP_iff L k).mp h
  exact ⟨e.2, he⟩
end
section
variable {K : Type} [BEq K] [LawfulBEq K] {w : World} {kt T et b t : Nat} {c : KC K} {L : List (K × Value)} {kv : Value} {k : K}
theorem MapB.look (h : MapB w kt c b t L) (hK : Keyed Try.prog kt) (hT : Try.prog.underlying T = some (.map kt et)) {z : Value} (hz : ∀ w, (zeroValue et).run Try.prog w = .ok z w) (hkey : keyOf Try.prog kt kv = some (c.lit k)) :
    (Instr.lookup T (.map (some b)) kv true).run Try.prog w = .ok (.tuple #[getP L k z, .bool (hasP L k)]) w := by
  obtain ⟨n, D, -, ho, hr⟩ := h
  obtain ⟨v, ps, hrun, hv⟩ := ho.look_ok hK hT (hz w) (zd := .held z) (zp := []) rfl hkey
  rw [hr.has] at hrun
  rw [hrun]
  have : v = getP L k z := by
    cases hh : hasP L k with
    | false =>
      rw [atKey_of_not_has (by rw [hr.has]; exact hh)] at hv
      rw [getP_no hh]
      exact RV_inv hv
    | true =>
      obtain ⟨u, hu⟩ := hasP_mem hh
      rw [hr.get hu] at hv
      rw [getP_mem hr.dist hu]
      exact RV_inv hv
  rw [this]
theorem MapB.store (h : MapB w kt c b t L) (hK : Keyed Try.prog kt) (hT : Try.prog.underlying T = some (.map kt et)) (ht : t < 1000000) (hkey : keyOf Try.prog kt kv = some (c.lit k)) (val : Value) :
    ∃ w', (Instr.mapUpdate T (.map (some b)) kv val).run Try.prog w = .ok () w' ∧ MapB w' kt c b (t + 1) (delP L k ++ [(k, val)]) ∧ w.grownBy w' (some b) := by
  obtain ⟨n, D, hn, ho, hr⟩ := h
  obtain ⟨w', hrun, ho', hg⟩ := ho.update hK hT (by simp only [maxLen]; omega) hkey (val := val) (show RV val = some (.held val, []) from rfl)
  exact ⟨w', hrun, ⟨n + 1, _, by omega, ho', hr.put k val⟩, hg⟩
theorem MapB.drop (h : MapB w kt c b t L) (hK : Keyed Try.prog kt) (hT : Try.prog.underlying T = some (.map kt et)) (hkey : keyOf Try.prog kt kv = some (c.lit k)) (ty : TypeId) :
    ∃ w', (Builtin.delete_ #[T, kt] ty #[.map (some b), kv]).run Try.prog w = .ok (.tuple #[]) w' ∧ MapB w' kt c b t (delP L k) ∧ w.grownBy w' (some b) := by
  obtain ⟨n, D, hn, ho, hr⟩ := h
  obtain ⟨w', hrun, ho', hg⟩ := ho.drop hK hT hkey ty
  exact ⟨w', hrun, ⟨n, _, hn, ho', hr.del k⟩, hg.grown⟩
theorem MapB.perm {L' : List (K × Value)} (h : MapB w kt c b t L) (hp : L.Perm L') : MapB w kt c b t L' := by
  obtain ⟨n, D, hn, ho, hr⟩ := h
  exact ⟨n, D, hn, ho, hr.perm hp⟩
theorem MapB.dist (h : MapB w kt c b t L) : DistP L := by
  obtain ⟨n, D, hn, ho, hr⟩ := h; exact hr.dist
end
theorem lawS : Keyed Try.prog 9 := string_keyed Try.underlying9
theorem lawI : Keyed Try.prog 3 := int_keyed Try.underlying3
theorem keyS {k : List UInt8} (h : k.length ≤ maxLen) : keyOf Try.prog 9 (.string (bs k)) = some (KS.lit k) := by
  rw [Go.WideMaps.keyOf_string_mk Try.underlying9 (by show (bs k).size ≤ maxLen; unfold bs; exact h)]
  unfold bs KS; simp
theorem wfI {x : Int} (h : I64 x) : (Lit.int .i64 x).wf = true := WalkArith.wf_i64 (by unfold I64 at h; omega)
theorem keyI {z : Int} (h : I64 z) : keyOf Try.prog 3 (.int .i64 z) = some (KI.lit z) := keyOf_int_mk Try.underlying3 (wfI h)
def entZ : Value := .agg #[.string ⟨#[]⟩, .int .i64 0, .int .i64 0, .string ⟨#[]⟩, .slice none 0 0]
theorem zeroE (w : World) : (zeroValue 45).run Try.prog w = .ok entZ w := by kernel_rfl
theorem zeroI (w : World) : (zeroValue 3).run Try.prog w = .ok (.int .i64 0) w := by kernel_rfl
end Go.Proofs.Ythboeoidgglcgaa
