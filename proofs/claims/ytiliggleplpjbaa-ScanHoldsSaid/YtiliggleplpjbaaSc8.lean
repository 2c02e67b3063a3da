/- scan: versions as keys of a map. -/
import Derived.Test.YtiliggleplpjbaaSc5
import Derived.Test.YtiliggleplpjbaaSc2
import Derived.DeepKeys5
namespace Go.Proofs.Ytiliggleplpjbaa
set_option linter.unusedVariables false
set_option linter.unusedSimpArgs false
open Go Go.RowKit Go.Maps
def VrOk (v : Vr) : Prop := v.key.length ≤ maxLen ∧ v.sum.length ≤ maxLen ∧ R64 v.gen ∧ R64 v.size
abbrev Vk := { v : Vr // VrOk v }
def Vr.agg (v : Vr) : Value := .agg #[.string (bs v.key), .int .i64 v.gen, .int .i64 v.size, .string (bs v.sum)]
def vLits (v : Vr) : List Lit := [.string v.key, .int .i64 v.gen, .int .i64 v.size, .string v.sum]
theorem laidS : laidOutB Try.prog = true := by kernel_rfl
theorem lawV : Keyed Try.prog 58 := Keyed.of_law (deep_law_laid laidS (m := 2) (by omega) (of_decide_eq_true (by kernel_rfl)) (by kernel_rfl) (by kernel_rfl))
theorem keyV_raw (v : Vr) (h : VrOk v) : keyOf Try.prog 58 v.agg = some (.string (keyBytes (vLits v))) := by
  obtain ⟨h1, h2, h3, h4⟩ := h
  have hkt : Try.prog.keyType 58 = true := by kernel_rfl
  have hfo : v.agg.formed Try.prog 58 = true := by kernel_rfl
  obtain ⟨d, hd⟩ : ∃ d, Try.prog.types.size + 1 = d + 1 + 1 := ⟨Try.prog.types.size - 1, by kernel_rfl⟩
  have hs : ∀ (l : List UInt8), l.length ≤ maxLen → Try.prog.keyLits (d + 1) 9 [.string (bs l)] = some [.string l] := fun l hl => by
    unfold Program.keyLits
    rw [Try.underlying9]
    simp only
    rw [if_pos (by show l.toArray.size ≤ maxLen; rw [List.size_toArray]; exact hl)]
    unfold bs
    simp
  have hi : ∀ z : Int, R64 z → Try.prog.keyLits (d + 1) 3 [.int .i64 z] = some [.int .i64 z] := fun z hz => by
    unfold Program.keyLits
    rw [Try.underlying3]
    simp only
    rw [if_pos ⟨trivial, WalkArith.wf_i64 (by unfold R64 at hz; omega)⟩]
  have hl : Try.prog.keyLits (Try.prog.types.size + 1) 58 v.agg.cells.toList = some (vLits v) := by
    rw [hd]
    unfold Program.keyLits
    rw [Try.underlying58]
    simp only
    have c9 : Try.prog.cellsOf 9 = 1 := by kernel_rfl
    have c3 : Try.prog.cellsOf 3 = 1 := by kernel_rfl
    have cl : v.agg.cells.toList = [.string (bs v.key), .int .i64 v.gen, .int .i64 v.size, .string (bs v.sum)] := rfl
    rw [if_pos ⟨by kernel_rfl, by decide +kernel⟩, cl]
    simp only [List.mapM_cons, List.mapM_nil, c9, c3, List.drop_zero, List.drop_succ_cons, List.take_succ_cons, List.take_zero, hs _ h1, hs _ h2, hi _ h3, hi _ h4]
    rfl
  unfold keyOf
  rw [Try.underlying58]
  simp only [hkt, hfo, hl, Bool.and_self, if_true, Option.map_some]
theorem Vr.agg_inj {a b : Vr} (h : a.agg = b.agg) : a = b := by
  unfold Vr.agg at h
  injection h with h
  have h0 := congrArg (fun x : Array Value => x[0]?) h
  have h1 := congrArg (fun x : Array Value => x[1]?) h
  have h2 := congrArg (fun x : Array Value => x[2]?) h
  have h3 := congrArg (fun x : Array Value => x[3]?) h
  simp at h0 h1 h2 h3
  exact vr_ext (bs_inj h0) h1 h2 (bs_inj h3)
def KV : KC Vk := ⟨fun v => .string (keyBytes (vLits v.1)), fun {a b} h => Subtype.ext (Vr.agg_inj (lawV.inj (keyV_raw a.1 a.2) ((keyV_raw b.1 b.2).trans (congrArg some h.symm)))), fun _ => trivial⟩
theorem keyV (v : Vk) : keyOf Try.prog 58 v.1.agg = some (KV.lit v) := keyV_raw v.1 v.2
end Go.Proofs.Ytiliggleplpjbaa
