/- The first frame of bytes, and all frames. -/
import Derived.Test.YtgdbbjijneidaaaJr4
import Derived.Test.YtgdbbjijneidaaaJr6
namespace Go.Proofs.Ytgdbbjijneidaaa
set_option linter.unusedVariables false
set_option linter.unusedSimpArgs false
open Go Go.RowKit
/-- four bytes as a number -/
def le32 (b : List UInt8) : Nat := (b.getD 0 0).toNat + 256 * (b.getD 1 0).toNat + 65536 * (b.getD 2 0).toNat + 16777216 * (b.getD 3 0).toNat
/-- the note whose frame bytes begin with, and the frame's length -/
def leadN (b : List UInt8) : Option (Nt × Nat) :=
  if b.length < 8 then none else
  if b.length - 8 < le32 b then none else
  match decN ((b.drop 8).take (le32 b)) with
  | none => none
  | some n => if frameB ((b.drop 8).take (le32 b)) = b.take (8 + le32 b) then some (n, 8 + le32 b) else none
def scanF : Nat → List UInt8 → List Nt × Nat
  | 0, _ => ([], 0)
  | f + 1, b => match leadN b with
    | none => ([], 0)
    | some (n, k) => (n :: (scanF f (b.drop k)).1, k + (scanF f (b.drop k)).2)
def scanN (b : List UInt8) : List Nt × Nat := scanF (b.length + 1) b
theorem leadN_le {b : List UInt8} {n : Nt} {k : Nat} (h : leadN b = some (n, k)) : 8 ≤ k ∧ k ≤ b.length := by
  unfold leadN at h
  split at h
  · cases h
  · split at h
    · cases h
    · split at h
      · cases h
      · split at h
        · injection h with h
          injection h with h1 h2
          omega
        · cases h
theorem scanF_more : ∀ (f f' : Nat) (b : List UInt8), b.length < f → b.length < f' → scanF f b = scanF f' b
  | 0, _, b, h, _ => absurd h (by omega)
  | _, 0, b, _, h => absurd h (by omega)
  | f + 1, f' + 1, b, h1, h2 => by
    unfold scanF
    cases h : leadN b with
    | none => rfl
    | some p =>
      obtain ⟨n, k⟩ := p
      have hk := leadN_le h
      have hl : (b.drop k).length = b.length - k := List.length_drop
      simp only
      rw [scanF_more f f' (b.drop k) (by omega) (by omega)]
theorem scanN_none {b : List UInt8} (h : leadN b = none) : scanN b = ([], 0) := by
  unfold scanN scanF
  rw [h]
theorem scanN_some {b : List UInt8} {n : Nt} {k : Nat} (h : leadN b = some (n, k)) : scanN b = (n :: (scanN (b.drop k)).1, k + (scanN (b.drop k)).2) := by
  have hk := leadN_le h
  have hl : (b.drop k).length = b.length - k := List.length_drop
  have e : scanN b = (n :: (scanF b.length (b.drop k)).1, k + (scanF b.length (b.drop k)).2) := by
    unfold scanN
    show (match leadN b with | none => ([], 0) | some (n, k) => (n :: (scanF b.length (b.drop k)).1, k + (scanF b.length (b.drop k)).2)) = _
    rw [h]
  rw [e, scanF_more b.length ((b.drop k).length + 1) (b.drop k) (by omega) (by omega)]
  rfl
theorem le32_lt (b : List UInt8) : le32 b < 4294967296 := by
  unfold le32
  have h0 := (b.getD 0 0).toNat_lt
  have h1 := (b.getD 1 0).toNat_lt
  have h2 := (b.getD 2 0).toNat_lt
  have h3 := (b.getD 3 0).toNat_lt
  omega
theorem lo8_nat (x : BitVec 32) : (lo8 x).toNat = x.toNat % 256 := by
  unfold lo8
  simp
theorem le32_bytes4 (x : BitVec 32) (t : List UInt8) : le32 (bytes4 x ++ t) = x.toNat := by
  unfold le32 bytes4
  simp only [List.cons_append, List.nil_append, List.getD_cons_zero, List.getD_cons_succ]
  have hx := x.isLt
  have e0 : (lo8 x).toNat = x.toNat % 256 := lo8_nat x
  have e1 : (lo8 (x >>> 8)).toNat = x.toNat / 256 % 256 := by rw [lo8_nat, BitVec.toNat_ushiftRight, Nat.shiftRight_eq_div_pow]
  have e2 : (lo8 (x >>> 16)).toNat = x.toNat / 65536 % 256 := by rw [lo8_nat, BitVec.toNat_ushiftRight, Nat.shiftRight_eq_div_pow]
  have e3 : (lo8 (x >>> 24)).toNat = x.toNat / 16777216 % 256 := by rw [lo8_nat, BitVec.toNat_ushiftRight, Nat.shiftRight_eq_div_pow]
  rw [e0, e1, e2, e3]
  omega
theorem or_step (acc k m : Nat) (hk : k ≤ 24) (ha : acc < 2 ^ k) (hm : m < 256) : bits .or .i64 (acc : Int) (IntKind.i64.wrap ((m : Int) * ((2 ^ k : Nat) : Int))) = ((acc + m * 2 ^ k : Nat) : Int) := by
  have hp : 2 ^ k ≤ 2 ^ 24 := Nat.pow_le_pow_right (by decide) hk
  have h1 : m * 2 ^ k ≤ 255 * 2 ^ 24 := Nat.mul_le_mul (by omega) hp
  have e2 : IntKind.i64.wrap ((m : Int) * ((2 ^ k : Nat) : Int)) = ((m * 2 ^ k : Nat) : Int) := by
    rw [IntKind.wrap_i64, ← Int.natCast_mul]
    omega
  rw [e2]
  show IntKind.i64.wrap ((BitVec.ofInt 64 (acc : Int) ||| BitVec.ofInt 64 ((m * 2 ^ k : Nat) : Int)).toNat : Int) = _
  rw [BitVec.ofInt_natCast, BitVec.ofInt_natCast, BitVec.toNat_or, BitVec.toNat_ofNat, BitVec.toNat_ofNat, Nat.mod_eq_of_lt (by omega), Nat.mod_eq_of_lt (by omega)]
  have e3 : acc ||| m * 2 ^ k = acc + m * 2 ^ k := by
    rw [Nat.or_comm, Nat.mul_comm m, ← Nat.two_pow_add_eq_or_of_lt ha, Nat.add_comm]
  rw [e3, IntKind.wrap_i64]
  omega
theorem or4 (x0 x1 x2 x3 : UInt8) : bits .or .i64 (bits .or .i64 (bits .or .i64 (U x0) (IntKind.i64.wrap (U x1 * 256))) (IntKind.i64.wrap (U x2 * 65536))) (IntKind.i64.wrap (U x3 * 16777216)) = ((x0.toNat + 256 * x1.toNat + 65536 * x2.toNat + 16777216 * x3.toNat : Nat) : Int) := by
  have h0 := x0.toNat_lt
  have h1 := x1.toNat_lt
  have h2 := x2.toNat_lt
  have h3 := x3.toNat_lt
  have s1 := or_step x0.toNat 8 x1.toNat (by decide) (by omega) (by omega)
  have s2 := or_step (x0.toNat + x1.toNat * 2 ^ 8) 16 x2.toNat (by decide) (by omega) (by omega)
  have s3 := or_step (x0.toNat + x1.toNat * 2 ^ 8 + x2.toNat * 2 ^ 16) 24 x3.toNat (by decide) (by omega) (by omega)
  unfold U
  rw [show ((256 : Int)) = ((2 ^ 8 : Nat) : Int) from rfl, show ((65536 : Int)) = ((2 ^ 16 : Nat) : Int) from rfl, show ((16777216 : Int)) = ((2 ^ 24 : Nat) : Int) from rfl, s1, s2, s3]
  congr 1
  omega
def LeadAns (base : Nat) (o : Option (Nt × Nat)) (e : Ending) (w' : World) : Prop := match o with
  | none => e = .returned (.tuple #[.agg #[.int .i64 0, .string ⟨#[]⟩, .int .i64 0, .int .i64 0, .slice none 0 0, .string ⟨#[]⟩, .int .i64 0, .slice none 0 0], .int .i64 0])
  | some (n, k) => ∃ u, e = .returned (.tuple #[u, .int .i64 k]) ∧ NtB base n u w'
theorem Byt.cutR {w : World} {A : Option Addr} {n c : Nat} {b : List UInt8} (h : Byt b (.slice A n c) w) (k m : Nat) (hk : k + m ≤ n) : Byt ((b.drop k).take m) (.slice (if c = k then A else A.map (·.add k)) m (c - k)) w := by
  obtain ⟨A', c', e', h1, h2, h3⟩ := h
  injection e' with e1 e2 e3
  subst e1
  subst e2
  subst e3
  have hl : ((b.drop k).take m).length = m := by rw [List.length_take, List.length_drop]; omega
  refine ⟨_, _, by rw [hl], by rw [hl]; omega, by omega, ?_⟩
  by_cases hck : c = k
  · rw [if_pos hck]
    have : (b.drop k).take m = [] := by apply List.eq_nil_of_length_eq_zero; rw [hl]; omega
    rw [this]
    exact Rd.nil_
  · rw [if_neg hck]
    exact (h3.cutAt (by omega)).take m (by rw [List.length_drop]; omega)
theorem Byt.cutL {w : World} {A : Option Addr} {n c : Nat} {b : List UInt8} (h : Byt b (.slice A n c) w) (m : Nat) (hm : m ≤ n) : Byt (b.take m) (.slice A m c) w := by
  obtain ⟨A', c', e', h1, h2, h3⟩ := h
  injection e' with e1 e2 e3
  subst e1
  subst e2
  subst e3
  have hl : (b.take m).length = m := by rw [List.length_take]; omega
  exact ⟨_, _, by rw [hl], by rw [hl]; omega, h2, h3.take m hm⟩
set_option maxHeartbeats 8000000 in
set_option maxRecDepth 20000 in
theorem lead_any (b : List UInt8) (v : Value) (hl : b.length ≤ 140737488355328) (w : World) (h : Byt b v w) :
    Calls Try.prog 58 #[v] w fun e w' => LeadAns w.heap.size (leadN b) e w' ∧ Gr w w' := by
  have hy := Lib.hid h
  obtain ⟨A, c, rfl, hc1, -, hR⟩ := h
  obtain ⟨nb, hnb⟩ : ∃ nb, b.length = nb := ⟨_, rfl⟩
  obtain ⟨RES, hres⟩ : ∃ RES, leadN b = RES := ⟨_, rfl⟩
  have hres0 := hres
  unfold leadN at hres0
  rw [hnb] at hl hc1 hy hres0 ⊢
  obtain ⟨N, hN⟩ : ∃ N, w.heap.size = N := ⟨_, rfl⟩
  have hz := heap_alloc_new w (.cells #[.int .i64 0, .string ⟨#[]⟩, .int .i64 0, .int .i64 0, .slice none 0 0, .string ⟨#[]⟩, .int .i64 0, .slice none 0 0] 25)
  have hb := Gr.alloc w (.cells #[.int .i64 0, .string ⟨#[]⟩, .int .i64 0, .int .i64 0, .slice none 0 0, .string ⟨#[]⟩, .int .i64 0, .slice none 0 0] 25)
  rw [hN] at hz
  obtain ⟨wa, hwa⟩ : ∃ wa, w.alloc (.cells #[.int .i64 0, .string ⟨#[]⟩, .int .i64 0, .int .i64 0, .slice none 0 0, .string ⟨#[]⟩, .int .i64 0, .slice none 0 0] 25) = wa := ⟨_, rfl⟩
  have hwl : N < wa.heap.size := by rw [← hwa, ← hN]; simp
  rw [hwa] at hz hb
  have hya := Byt.gr hb hy
  replace hb : Hid (Below N w wa) := Lib.hid (by unfold Gr at hb; rw [hN] at hb; exact hb)
  replace hz := Lib.hid hz
  replace hwa := Lib.hid hwa
  replace hN := Lib.hid hN
  clear hR hy
  by_cases h8 : nb < 8
  · rw [if_pos h8] at hres0
    replace hres := Lib.hid (hres.trans hres0.symm)
    go_enter Try.func58, Try.ntmps58
    go_upto_region 2 with (fail)
    rw [hN.out, hwa.out]
    have z0 := blk_cell (j := 0) (v := .int .i64 0) hz.out rfl
    have zf0 := blk_free hz.out 0
    have z1 := blk_cell (j := 1) (v := .string ⟨#[]⟩) hz.out rfl
    have zf1 := blk_free hz.out 1
    have z2 := blk_cell (j := 2) (v := .int .i64 0) hz.out rfl
    have zf2 := blk_free hz.out 2
    have z3 := blk_cell (j := 3) (v := .int .i64 0) hz.out rfl
    have zf3 := blk_free hz.out 3
    have z4 := blk_cell (j := 4) (v := .slice none 0 0) hz.out rfl
    have zf4 := blk_free hz.out 4
    have z5 := blk_cell (j := 5) (v := .string ⟨#[]⟩) hz.out rfl
    have zf5 := blk_free hz.out 5
    have z6 := blk_cell (j := 6) (v := .int .i64 0) hz.out rfl
    have zf6 := blk_free hz.out 6
    have z7 := blk_cell (j := 7) (v := .slice none 0 0) hz.out rfl
    have zf7 := blk_free hz.out 7
    go_wp2_with fail
    obtain ⟨hs, hbs, hot, hss⟩ := set8 hz.out (.int .i64 0) (.string ⟨#[]⟩) (.int .i64 0) (.int .i64 0) (.slice none 0 0) (.string ⟨#[]⟩) (.int .i64 0) (.slice none 0 0)
    obtain ⟨wf, hwf⟩ : ∃ wf, ((((((((wa.setCell ⟨N, 0, none⟩ (.int .i64 0)).setCell ⟨N, 1, none⟩ (.string ⟨#[]⟩)).setCell ⟨N, 2, none⟩ (.int .i64 0)).setCell ⟨N, 3, none⟩ (.int .i64 0)).setCell ⟨N, 4, none⟩ (.slice none 0 0)).setCell ⟨N, 5, none⟩ (.string ⟨#[]⟩)).setCell ⟨N, 6, none⟩ (.int .i64 0)).setCell ⟨N, 7, none⟩ (.slice none 0 0)) = wf := ⟨_, rfl⟩
    rw [hwf] at hs hbs hot hss ⊢
    have r0 := blk_cell (j := 0) (v := .int .i64 0) hs rfl
    have r1 := blk_cell (j := 1) (v := .string ⟨#[]⟩) hs rfl
    have r2 := blk_cell (j := 2) (v := .int .i64 0) hs rfl
    have r3 := blk_cell (j := 3) (v := .int .i64 0) hs rfl
    have r4 := blk_cell (j := 4) (v := .slice none 0 0) hs rfl
    have r5 := blk_cell (j := 5) (v := .string ⟨#[]⟩) hs rfl
    have r6 := blk_cell (j := 6) (v := .int .i64 0) hs rfl
    have r7 := blk_cell (j := 7) (v := .slice none 0 0) hs rfl
    exact bodyPost_ret (v := .tuple #[.agg #[.int .i64 0, .string ⟨#[]⟩, .int .i64 0, .int .i64 0, .slice none 0 0, .string ⟨#[]⟩, .int .i64 0, .slice none 0 0], .int .i64 0]) (by simp [results, Try.results58, go_sem, r0, r1, r2, r3, r4, r5, r6, r7]) rfl ⟨by rw [hres.out]; rfl, by unfold Gr; rw [hN.out]; exact hb.out.trans hbs⟩
  · rw [if_neg h8] at hres0
    replace hnb := Lib.hid hnb
    obtain ⟨A', c', e', -, -, hRa⟩ := hya.out
    injection e' with e1 e2 e3
    subst e1
    clear e2 e3
    obtain ⟨x0, hx0⟩ : ∃ x, b[0]? = some x := ⟨_, List.getElem?_eq_getElem (by rw [hnb.out]; omega)⟩
    obtain ⟨x1, hx1⟩ : ∃ x, b[1]? = some x := ⟨_, List.getElem?_eq_getElem (by rw [hnb.out]; omega)⟩
    obtain ⟨x2, hx2⟩ : ∃ x, b[2]? = some x := ⟨_, List.getElem?_eq_getElem (by rw [hnb.out]; omega)⟩
    obtain ⟨x3, hx3⟩ : ∃ x, b[3]? = some x := ⟨_, List.getElem?_eq_getElem (by rw [hnb.out]; omega)⟩
    obtain ⟨ad, e, -, q0⟩ := hRa.get hx0
    subst e
    obtain ⟨ad', e, -, q1⟩ := hRa.get hx1
    injection e with e
    subst e
    obtain ⟨ad', e, -, q2⟩ := hRa.get hx2
    injection e with e
    subst e
    obtain ⟨ad', e, -, q3⟩ := hRa.get hx3
    injection e with e
    subst e
    have hf := flat_of q0
    obtain ⟨ab, ao, hab⟩ : ∃ ab ao, ad = ⟨ab, ao, none⟩ := ⟨_, _, hf⟩
    subst hab
    rw [add_of] at q0 q1 q2 q3
    simp only [Nat.add_zero] at q0
    obtain ⟨L, hL⟩ : ∃ L, x0.toNat + 256 * x1.toNat + 65536 * x2.toNat + 16777216 * x3.toNat = L := ⟨_, rfl⟩
    have hle : le32 b = L := by
      unfold le32
      rw [← hL, List.getD_eq_getElem?_getD, List.getD_eq_getElem?_getD, List.getD_eq_getElem?_getD, List.getD_eq_getElem?_getD, hx0, hx1, hx2, hx3]
      rfl
    have hL32 : L < 4294967296 := by rw [← hle]; exact le32_lt b
    have hor := or4 x0 x1 x2 x3
    rw [hL] at hor
    rw [hle] at hres0
    clear hf hRa hx0 hx1 hx2 hx3 hle hL
    replace hor := Lib.hid hor
    have i0 : 0 < nb := by omega
    have i1 : 1 < nb := by omega
    have i2 : 2 < nb := by omega
    have i3 : 3 < nb := by omega
    have j1 : (1 : Int) < (nb : Int) := by omega
    have j2 : (2 : Int) < (nb : Int) := by omega
    have j3 : (3 : Int) < (nb : Int) := by omega
    replace hres0 := Lib.hid hres0
    replace hres := Lib.hid hres
    go_enter Try.func58, Try.ntmps58
    go_upto_region 3 with (fail)
    rw [hN.out, hwa.out]
    clear hwa
    obtain ⟨wd, hwd⟩ : ∃ wd, wd = wa.drew := ⟨_, rfl⟩
    replace q0 : wd.cell? ⟨ab, ao, none⟩ = some (.int .u8 (U x0)) := by rw [hwd]; exact q0
    replace q1 : wd.cell? ⟨ab, ao + 1, none⟩ = some (.int .u8 (U x1)) := by rw [hwd]; exact q1
    replace q2 : wd.cell? ⟨ab, ao + 2, none⟩ = some (.int .u8 (U x2)) := by rw [hwd]; exact q2
    replace q3 : wd.cell? ⟨ab, ao + 3, none⟩ = some (.int .u8 (U x3)) := by rw [hwd]; exact q3
    replace hb : Hid (Below N w wd) := Lib.hid (by rw [hwd]; exact hb.out.drew)
    replace hz : Hid (wd.heap[N]? = some (.cells #[.int .i64 0, .string ⟨#[]⟩, .int .i64 0, .int .i64 0, .slice none 0 0, .string ⟨#[]⟩, .int .i64 0, .slice none 0 0] 25 (0, 0))) := Lib.hid (by rw [hwd]; exact hz.out)
    replace hya : Hid (Byt b (.slice (some ⟨ab, ao, none⟩) nb c) wd) := Byt.gr (w := wa) (by rw [hwd]; exact (Below.refl _ _).drew) hya
    replace hwl : N < wd.heap.size := by rw [hwd]; exact hwl
    refine wpR_region (Eq) 9999 (by kernel_rfl) ?_
    (rw [← hwd]; replace hwd := Lib.hid hwd)
    refine wpR_take (i := 0) (v := ?_) (⟨fun _ => rfl, Eq.trans⟩) (some 12) rfl (by kernel_rfl) (by kernel_rfl) (by kernel_rfl) (by kernel_rfl) (by kernel_rfl) (fun _ _ _ h => h) (by kernel_rfl) (fun w' hw' => ?_) ?_
    rotate_left
    · go_simp; with_reducible rfl
    simp only [Act.put, List.setIfInBounds_toArray, List.set_cons_zero, List.set_cons_succ]
    refine wpR_take (i := 1) (v := ?_) (⟨fun _ => rfl, Eq.trans⟩) (some 13) rfl (by kernel_rfl) (by kernel_rfl) (by kernel_rfl) (by kernel_rfl) (by kernel_rfl) (fun _ _ _ h => h) (by kernel_rfl) (fun w' hw' => ?_) ?_
    rotate_left
    · go_simp; with_reducible rfl
    simp only [Act.put, List.setIfInBounds_toArray, List.set_cons_zero, List.set_cons_succ]
    refine wpR_take (i := 2) (v := ?_) (⟨fun _ => rfl, Eq.trans⟩) (some 14) rfl (by kernel_rfl) (by kernel_rfl) (by kernel_rfl) (by kernel_rfl) (by kernel_rfl) (fun _ _ _ h => h) (by kernel_rfl) (fun w' hw' => ?_) ?_
    rotate_left
    · subst hw'; go_simp; with_reducible rfl
    simp only [Act.put, List.setIfInBounds_toArray, List.set_cons_zero, List.set_cons_succ]
    refine wpR_take (i := 3) (v := ?_) (⟨fun _ => rfl, Eq.trans⟩) (some 15) rfl (by kernel_rfl) (by kernel_rfl) (by kernel_rfl) (by kernel_rfl) (by kernel_rfl) (fun _ _ _ h => h) (by kernel_rfl) (fun w' hw' => ?_) ?_
    rotate_left
    · go_simp; with_reducible rfl
    simp only [Act.put, List.setIfInBounds_toArray, List.set_cons_zero, List.set_cons_succ]
    refine wpR_take (i := 4) (v := ?_) (⟨fun _ => rfl, Eq.trans⟩) (some 16) rfl (by kernel_rfl) (by kernel_rfl) (by kernel_rfl) (by kernel_rfl) (by kernel_rfl) (fun _ _ _ h => h) (by kernel_rfl) (fun w' hw' => ?_) ?_
    rotate_left
    · go_simp; with_reducible rfl
    simp only [Act.put, List.setIfInBounds_toArray, List.set_cons_zero, List.set_cons_succ]
    refine wpR_take (i := 5) (v := ?_) (⟨fun _ => rfl, Eq.trans⟩) (some 17) rfl (by kernel_rfl) (by kernel_rfl) (by kernel_rfl) (by kernel_rfl) (by kernel_rfl) (fun _ _ _ h => h) (by kernel_rfl) (fun w' hw' => ?_) ?_
    rotate_left
    · go_simp; with_reducible rfl
    simp only [Act.put, List.setIfInBounds_toArray, List.set_cons_zero, List.set_cons_succ]
    refine wpR_take (i := 6) (v := ?_) (⟨fun _ => rfl, Eq.trans⟩) (some 18) rfl (by kernel_rfl) (by kernel_rfl) (by kernel_rfl) (by kernel_rfl) (by kernel_rfl) (fun _ _ _ h => h) (by kernel_rfl) (fun w' hw' => ?_) ?_
    rotate_left
    · subst hw'; go_simp; with_reducible rfl
    simp only [Act.put, List.setIfInBounds_toArray, List.set_cons_zero, List.set_cons_succ]
    refine wpR_take (i := 7) (v := ?_) (⟨fun _ => rfl, Eq.trans⟩) (some 19) rfl (by kernel_rfl) (by kernel_rfl) (by kernel_rfl) (by kernel_rfl) (by kernel_rfl) (fun _ _ _ h => h) (by kernel_rfl) (fun w' hw' => ?_) ?_
    rotate_left
    · go_simp; with_reducible rfl
    simp only [Act.put, List.setIfInBounds_toArray, List.set_cons_zero, List.set_cons_succ]
    refine wpR_take (i := 8) (v := ?_) (⟨fun _ => rfl, Eq.trans⟩) (some 20) rfl (by kernel_rfl) (by kernel_rfl) (by kernel_rfl) (by kernel_rfl) (by kernel_rfl) (fun _ _ _ h => h) (by kernel_rfl) (fun w' hw' => ?_) ?_
    rotate_left
    · go_simp; with_reducible rfl
    simp only [Act.put, List.setIfInBounds_toArray, List.set_cons_zero, List.set_cons_succ]
    refine wpR_take (i := 9) (v := ?_) (⟨fun _ => rfl, Eq.trans⟩) (some 21) rfl (by kernel_rfl) (by kernel_rfl) (by kernel_rfl) (by kernel_rfl) (by kernel_rfl) (fun _ _ _ h => h) (by kernel_rfl) (fun w' hw' => ?_) ?_
    rotate_left
    · go_simp; with_reducible rfl
    simp only [Act.put, List.setIfInBounds_toArray, List.set_cons_zero, List.set_cons_succ]
    refine wpR_take (i := 10) (v := ?_) (⟨fun _ => rfl, Eq.trans⟩) (some 22) rfl (by kernel_rfl) (by kernel_rfl) (by kernel_rfl) (by kernel_rfl) (by kernel_rfl) (fun _ _ _ h => h) (by kernel_rfl) (fun w' hw' => ?_) ?_
    rotate_left
    · go_simp; with_reducible rfl
    simp only [Act.put, List.setIfInBounds_toArray, List.set_cons_zero, List.set_cons_succ]
    refine wpR_take (i := 11) (v := ?_) (⟨fun _ => rfl, Eq.trans⟩) (some 23) rfl (by kernel_rfl) (by kernel_rfl) (by kernel_rfl) (by kernel_rfl) (by kernel_rfl) (fun _ _ _ h => h) (by kernel_rfl) (fun w' hw' => ?_) ?_
    rotate_left
    · go_simp; with_reducible rfl
    simp only [Act.put, List.setIfInBounds_toArray, List.set_cons_zero, List.set_cons_succ]
    refine wpR_take (i := 12) (v := ?_) (⟨fun _ => rfl, Eq.trans⟩) (some 24) rfl (by kernel_rfl) (by kernel_rfl) (by kernel_rfl) (by kernel_rfl) (by kernel_rfl) (fun _ _ _ h => h) (by kernel_rfl) (fun w' hw' => ?_) ?_
    rotate_left
    · subst hw'; go_simp; with_reducible rfl
    simp only [Act.put, List.setIfInBounds_toArray, List.set_cons_zero, List.set_cons_succ]
    refine wpR_take (i := 13) (v := ?_) (⟨fun _ => rfl, Eq.trans⟩) (some 25) rfl (by kernel_rfl) (by kernel_rfl) (by kernel_rfl) (by kernel_rfl) (by kernel_rfl) (fun _ _ _ h => h) (by kernel_rfl) (fun w' hw' => ?_) ?_
    rotate_left
    · go_simp; with_reducible rfl
    simp only [Act.put, List.setIfInBounds_toArray, List.set_cons_zero, List.set_cons_succ]
    refine wpR_take (i := 14) (v := ?_) (⟨fun _ => rfl, Eq.trans⟩) (some 26) rfl (by kernel_rfl) (by kernel_rfl) (by kernel_rfl) (by kernel_rfl) (by kernel_rfl) (fun _ _ _ h => h) (by kernel_rfl) (fun w' hw' => ?_) ?_
    rotate_left
    · go_simp; with_reducible rfl
    simp only [Act.put, List.setIfInBounds_toArray, List.set_cons_zero, List.set_cons_succ]
    refine wpR_take (i := 15) (v := ?_) (⟨fun _ => rfl, Eq.trans⟩) (some 27) rfl (by kernel_rfl) (by kernel_rfl) (by kernel_rfl) (by kernel_rfl) (by kernel_rfl) (fun _ _ _ h => h) (by kernel_rfl) (fun w' hw' => ?_) ?_
    rotate_left
    · go_simp; with_reducible rfl
    simp only [Act.put, List.setIfInBounds_toArray, List.set_cons_zero, List.set_cons_succ]
    refine wpR_take (i := 16) (v := ?_) (⟨fun _ => rfl, Eq.trans⟩) (some 28) rfl (by kernel_rfl) (by kernel_rfl) (by kernel_rfl) (by kernel_rfl) (by kernel_rfl) (fun _ _ _ h => h) (by kernel_rfl) (fun w' hw' => ?_) ?_
    rotate_left
    · go_simp; with_reducible rfl
    simp only [Act.put, List.setIfInBounds_toArray, List.set_cons_zero, List.set_cons_succ]
    refine wpR_take (i := 17) (v := ?_) (⟨fun _ => rfl, Eq.trans⟩) (some 29) rfl (by kernel_rfl) (by kernel_rfl) (by kernel_rfl) (by kernel_rfl) (by kernel_rfl) (fun _ _ _ h => h) (by kernel_rfl) (fun w' hw' => ?_) ?_
    rotate_left
    · go_simp; with_reducible rfl
    simp only [Act.put, List.setIfInBounds_toArray, List.set_cons_zero, List.set_cons_succ]
    refine wpR_take (i := 18) (v := ?_) (⟨fun _ => rfl, Eq.trans⟩) (some 30) rfl (by kernel_rfl) (by kernel_rfl) (by kernel_rfl) (by kernel_rfl) (by kernel_rfl) (fun _ _ _ h => h) (by kernel_rfl) (fun w' hw' => ?_) ?_
    rotate_left
    · subst hw'; go_simp; with_reducible rfl
    simp only [Act.put, List.setIfInBounds_toArray, List.set_cons_zero, List.set_cons_succ]
    refine wpR_take (i := 19) (v := ?_) (⟨fun _ => rfl, Eq.trans⟩) (some 31) rfl (by kernel_rfl) (by kernel_rfl) (by kernel_rfl) (by kernel_rfl) (by kernel_rfl) (fun _ _ _ h => h) (by kernel_rfl) (fun w' hw' => ?_) ?_
    rotate_left
    · go_simp; with_reducible rfl
    simp only [Act.put, List.setIfInBounds_toArray, List.set_cons_zero, List.set_cons_succ]
    refine wpR_take (i := 20) (v := ?_) (⟨fun _ => rfl, Eq.trans⟩) (some 32) rfl (by kernel_rfl) (by kernel_rfl) (by kernel_rfl) (by kernel_rfl) (by kernel_rfl) (fun _ _ _ h => h) (by kernel_rfl) (fun w' hw' => ?_) ?_
    rotate_left
    · go_simp; with_reducible rfl
    simp only [Act.put, List.setIfInBounds_toArray, List.set_cons_zero, List.set_cons_succ]
    refine wpR_take (i := 21) (v := ?_) (⟨fun _ => rfl, Eq.trans⟩) (some 33) rfl (by kernel_rfl) (by kernel_rfl) (by kernel_rfl) (by kernel_rfl) (by kernel_rfl) (fun _ _ _ h => h) (by kernel_rfl) (fun w' hw' => ?_) ?_
    rotate_left
    · go_simp; with_reducible rfl
    simp only [Act.put, List.setIfInBounds_toArray, List.set_cons_zero, List.set_cons_succ]
    refine wpR_take (i := 22) (v := ?_) (⟨fun _ => rfl, Eq.trans⟩) (some 4) rfl (by kernel_rfl) (by kernel_rfl) (by kernel_rfl) (by kernel_rfl) (by kernel_rfl) (fun _ _ _ h => h) (by kernel_rfl) (fun w' hw' => ?_) ?_
    rotate_left
    · go_simp; with_reducible rfl
    simp only [Act.put, List.setIfInBounds_toArray, List.set_cons_zero, List.set_cons_succ]
    refine wpR_done (by kernel_rfl) ?_ _
    rw [hor.out]
    clear q0 q1 q2 q3 hor i0 i1 i2 i3 j1 j2 j3
    by_cases hbig : nb - 8 < L
    · have hr := hres0.out
      rw [if_pos hbig] at hr
      replace hres := Lib.hid (hres.out.trans hr.symm)
      have hbi : (nb : Int) - 8 < (L : Int) := by omega
      clear hr hres0
      go_upto_region 5 with (fail)
      have z0 := blk_cell (j := 0) (v := .int .i64 0) hz.out rfl
      have zf0 := blk_free hz.out 0
      have z1 := blk_cell (j := 1) (v := .string ⟨#[]⟩) hz.out rfl
      have zf1 := blk_free hz.out 1
      have z2 := blk_cell (j := 2) (v := .int .i64 0) hz.out rfl
      have zf2 := blk_free hz.out 2
      have z3 := blk_cell (j := 3) (v := .int .i64 0) hz.out rfl
      have zf3 := blk_free hz.out 3
      have z4 := blk_cell (j := 4) (v := .slice none 0 0) hz.out rfl
      have zf4 := blk_free hz.out 4
      have z5 := blk_cell (j := 5) (v := .string ⟨#[]⟩) hz.out rfl
      have zf5 := blk_free hz.out 5
      have z6 := blk_cell (j := 6) (v := .int .i64 0) hz.out rfl
      have zf6 := blk_free hz.out 6
      have z7 := blk_cell (j := 7) (v := .slice none 0 0) hz.out rfl
      have zf7 := blk_free hz.out 7
      go_wp2_with fail
      obtain ⟨hs, hbs, hot, hss⟩ := set8 hz.out (.int .i64 0) (.string ⟨#[]⟩) (.int .i64 0) (.int .i64 0) (.slice none 0 0) (.string ⟨#[]⟩) (.int .i64 0) (.slice none 0 0)
      obtain ⟨wf, hwf⟩ : ∃ wf, ((((((((wd.setCell ⟨N, 0, none⟩ (.int .i64 0)).setCell ⟨N, 1, none⟩ (.string ⟨#[]⟩)).setCell ⟨N, 2, none⟩ (.int .i64 0)).setCell ⟨N, 3, none⟩ (.int .i64 0)).setCell ⟨N, 4, none⟩ (.slice none 0 0)).setCell ⟨N, 5, none⟩ (.string ⟨#[]⟩)).setCell ⟨N, 6, none⟩ (.int .i64 0)).setCell ⟨N, 7, none⟩ (.slice none 0 0)) = wf := ⟨_, rfl⟩
      rw [hwf] at hs hbs hot hss ⊢
      have r0 := blk_cell (j := 0) (v := .int .i64 0) hs rfl
      have r1 := blk_cell (j := 1) (v := .string ⟨#[]⟩) hs rfl
      have r2 := blk_cell (j := 2) (v := .int .i64 0) hs rfl
      have r3 := blk_cell (j := 3) (v := .int .i64 0) hs rfl
      have r4 := blk_cell (j := 4) (v := .slice none 0 0) hs rfl
      have r5 := blk_cell (j := 5) (v := .string ⟨#[]⟩) hs rfl
      have r6 := blk_cell (j := 6) (v := .int .i64 0) hs rfl
      have r7 := blk_cell (j := 7) (v := .slice none 0 0) hs rfl
      exact bodyPost_ret (v := .tuple #[.agg #[.int .i64 0, .string ⟨#[]⟩, .int .i64 0, .int .i64 0, .slice none 0 0, .string ⟨#[]⟩, .int .i64 0, .slice none 0 0], .int .i64 0]) (by simp [results, Try.results58, go_sem, r0, r1, r2, r3, r4, r5, r6, r7]) rfl ⟨by rw [hres.out]; rfl, by unfold Gr; rw [hN.out]; exact hb.out.trans hbs⟩
    · have hr := hres0.out
      rw [if_neg hbig] at hr
      have hbi : ¬ ((nb : Int) - 8 < (L : Int)) := by omega
      have hend : 8 + L ≤ nb := by omega
      have hyx := Byt.cutR hya.out 8 L hend
      have hyt := Byt.cutL hya.out (8 + L) hend
      obtain ⟨X, hX⟩ : ∃ X, (b.drop 8).take L = X := ⟨_, rfl⟩
      rw [hX] at hyx hr
      obtain ⟨E, hE⟩ : ∃ E : Nat, 8 + L = E := ⟨_, rfl⟩
      rw [hE] at hyt hr hend
      replace hX := Lib.hid hX
      have hE' : (8 : Int) + L = (E : Int) := by omega
      have hXl : X.length = L := by rw [← hX.out, List.length_take, List.length_drop, hnb.out]; omega
      replace hXl := Lib.hid hXl
      have hcE : E ≤ c := by omega
      replace hyx := Lib.hid hyx
      replace hyt := Lib.hid hyt
      replace hr := Lib.hid hr
      clear hres0
      go_upto_region 7 with (fail)
      have hLE : L = E - 8 := by omega
      by_cases hc8 : c = 8
      · obtain rfl : E = 8 := by omega
        obtain rfl : L = 0 := by omega
        obtain rfl : nb = 8 := by omega
        subst hc8
        clear hE hE' hcE hend hLE hbig hbi hc1 h8 hL32 hl
        replace hyx : Hid (Byt X (.slice (some ⟨ab, ao, none⟩) 0 0) wd) := hyx
        go_wp2_with fail
        have hdc := decode_any X (.slice (some ⟨ab, ao, none⟩) 0 0) (by rw [hXl.out]; omega) wd hyx.out
        cases hD : decN X with
        | none =>
          rw [hD] at hdc
          have hr := hr.out
          rw [hD] at hr
          simp only at hr
          replace hres := Lib.hid (hres.out.trans hr.symm)
          refine hdc.mono ?_
          rintro e w5 ⟨hans, hg5⟩
          replace hans : e = _ := hans
          subst hans
          replace hb := Lib.hid (hb.out.trans (Below.mono hg5 (by omega)))
          replace hz := Lib.hid (blk_below hz.out hg5)
          replace hwl := Nat.lt_of_lt_of_le hwl hg5.size
          clear hdc hr hyx hyt hya hg5
          have hga := Gr.alloc w5 (.cells #[.int .i64 0, .string ⟨#[]⟩, .int .i64 0, .int .i64 0, .slice none 0 0, .string ⟨#[]⟩, .int .i64 0, .slice none 0 0] 25)
          replace hz := Lib.hid (blk_below hz.out hga)
          replace hb := Lib.hid (hb.out.trans (Below.mono hga (by omega)))
          go_upto_region 8 with (fail)
          obtain ⟨w6, hw6⟩ : ∃ w6, w5.alloc (.cells #[.int .i64 0, .string ⟨#[]⟩, .int .i64 0, .int .i64 0, .slice none 0 0, .string ⟨#[]⟩, .int .i64 0, .slice none 0 0] 25) = w6 := ⟨_, rfl⟩
          rw [hw6] at hz hb ⊢
          clear hga hw6
          obtain ⟨wd, hwd⟩ : ∃ wd, wd = w6.drew := ⟨_, rfl⟩
          replace hb : Hid (Below N w wd) := Lib.hid (by rw [hwd]; exact hb.out.drew)
          replace hz : Hid (wd.heap[N]? = some (.cells #[.int .i64 0, .string ⟨#[]⟩, .int .i64 0, .int .i64 0, .slice none 0 0, .string ⟨#[]⟩, .int .i64 0, .slice none 0 0] 25 (0, 0))) := Lib.hid (by rw [hwd]; exact hz.out)
          refine wpR_region (Gr) 9999 (by kernel_rfl) ?_
          (rw [← hwd]; replace hwd := Lib.hid hwd)
          refine wpR_take (i := 0) (v := ?_) (Gr.road) (some 49) rfl (by kernel_rfl) (by kernel_rfl) (by kernel_rfl) (by kernel_rfl) (by kernel_rfl) (fun _ _ _ h => h) (by kernel_rfl) (fun w' hw' => ?_) ?_
          rotate_left
          · go_simp; with_reducible rfl
          simp only [Act.put, List.setIfInBounds_toArray, List.set_cons_zero, List.set_cons_succ]
          refine wpR_take (i := 1) (v := ?_) (Gr.road) (some 50) rfl (by kernel_rfl) (by kernel_rfl) (by kernel_rfl) (by kernel_rfl) (by kernel_rfl) (fun _ _ _ h => h) (by kernel_rfl) (fun w' hw' => ?_) ?_
          rotate_left
          · go_simp; with_reducible rfl
          simp only [Act.put, List.setIfInBounds_toArray, List.set_cons_zero, List.set_cons_succ]
          refine wpR_take (i := 2) (v := ?_) (Gr.road) (some 51) rfl (by kernel_rfl) (by kernel_rfl) (by kernel_rfl) (by kernel_rfl) (by kernel_rfl) (fun _ _ _ h => h) (by kernel_rfl) (fun w' hw' => ?_) ?_
          rotate_left
          · go_simp; with_reducible rfl
          simp only [Act.put, List.setIfInBounds_toArray, List.set_cons_zero, List.set_cons_succ]
          refine wpR_skip (i := 3) (Gr.road) (some 52) rfl (by kernel_rfl) (by kernel_rfl) (by kernel_rfl) (by kernel_rfl) (by kernel_rfl) (fun _ _ _ h => h) (by kernel_rfl) ?_
          simp only [Act.put, List.setIfInBounds_toArray, List.set_cons_zero, List.set_cons_succ]
          refine wpR_skip (i := 4) (Gr.road) (some 53) rfl (by kernel_rfl) (by kernel_rfl) (by kernel_rfl) (by kernel_rfl) (by kernel_rfl) (fun _ _ _ h => h) (by kernel_rfl) ?_
          simp only [Act.put, List.setIfInBounds_toArray, List.set_cons_zero, List.set_cons_succ]
          refine wpR_skip (i := 5) (Gr.road) (some 54) rfl (by kernel_rfl) (by kernel_rfl) (by kernel_rfl) (by kernel_rfl) (by kernel_rfl) (fun _ _ _ h => h) (by kernel_rfl) ?_
          simp only [Act.put, List.setIfInBounds_toArray, List.set_cons_zero, List.set_cons_succ]
          refine wpR_skip (i := 6) (Gr.road) (some 55) rfl (by kernel_rfl) (by kernel_rfl) (by kernel_rfl) (by kernel_rfl) (by kernel_rfl) (fun _ _ _ h => h) (by kernel_rfl) ?_
          simp only [Act.put, List.setIfInBounds_toArray, List.set_cons_zero, List.set_cons_succ]
          refine wpR_skip (i := 7) (Gr.road) (some 56) rfl (by kernel_rfl) (by kernel_rfl) (by kernel_rfl) (by kernel_rfl) (by kernel_rfl) (fun _ _ _ h => h) (by kernel_rfl) ?_
          simp only [Act.put, List.setIfInBounds_toArray, List.set_cons_zero, List.set_cons_succ]
          refine wpR_skip (i := 8) (Gr.road) (some 57) rfl (by kernel_rfl) (by kernel_rfl) (by kernel_rfl) (by kernel_rfl) (by kernel_rfl) (fun _ _ _ h => h) (by kernel_rfl) ?_
          simp only [Act.put, List.setIfInBounds_toArray, List.set_cons_zero, List.set_cons_succ]
          refine wpR_skip (i := 9) (Gr.road) (some 58) rfl (by kernel_rfl) (by kernel_rfl) (by kernel_rfl) (by kernel_rfl) (by kernel_rfl) (fun _ _ _ h => h) (by kernel_rfl) ?_
          simp only [Act.put, List.setIfInBounds_toArray, List.set_cons_zero, List.set_cons_succ]
          refine wpR_skip (i := 10) (Gr.road) (some 59) rfl (by kernel_rfl) (by kernel_rfl) (by kernel_rfl) (by kernel_rfl) (by kernel_rfl) (fun _ _ _ h => h) (by kernel_rfl) ?_
          simp only [Act.put, List.setIfInBounds_toArray, List.set_cons_zero, List.set_cons_succ]
          refine wpR_skip (i := 11) (Gr.road) (some 60) rfl (by kernel_rfl) (by kernel_rfl) (by kernel_rfl) (by kernel_rfl) (by kernel_rfl) (fun _ _ _ h => h) (by kernel_rfl) ?_
          simp only [Act.put, List.setIfInBounds_toArray, List.set_cons_zero, List.set_cons_succ]
          refine wpR_take (i := 12) (v := ?_) (Gr.road) (some 61) rfl (by kernel_rfl) (by kernel_rfl) (by kernel_rfl) (by kernel_rfl) (by kernel_rfl) (fun _ _ _ h => h) (by kernel_rfl) (fun w' hw' => ?_) ?_
          rotate_left
          · go_simp; with_reducible rfl
          simp only [Act.put, List.setIfInBounds_toArray, List.set_cons_zero, List.set_cons_succ]
          refine wpR_done (by kernel_rfl) ?_ _
          have z0 := blk_cell (j := 0) (v := .int .i64 0) hz.out rfl
          have zf0 := blk_free hz.out 0
          have z1 := blk_cell (j := 1) (v := .string ⟨#[]⟩) hz.out rfl
          have zf1 := blk_free hz.out 1
          have z2 := blk_cell (j := 2) (v := .int .i64 0) hz.out rfl
          have zf2 := blk_free hz.out 2
          have z3 := blk_cell (j := 3) (v := .int .i64 0) hz.out rfl
          have zf3 := blk_free hz.out 3
          have z4 := blk_cell (j := 4) (v := .slice none 0 0) hz.out rfl
          have zf4 := blk_free hz.out 4
          have z5 := blk_cell (j := 5) (v := .string ⟨#[]⟩) hz.out rfl
          have zf5 := blk_free hz.out 5
          have z6 := blk_cell (j := 6) (v := .int .i64 0) hz.out rfl
          have zf6 := blk_free hz.out 6
          have z7 := blk_cell (j := 7) (v := .slice none 0 0) hz.out rfl
          have zf7 := blk_free hz.out 7
          go_wp2_with fail
          obtain ⟨hs, hbs, hot, hss⟩ := set8 hz.out (.int .i64 0) (.string ⟨#[]⟩) (.int .i64 0) (.int .i64 0) (.slice none 0 0) (.string ⟨#[]⟩) (.int .i64 0) (.slice none 0 0)
          obtain ⟨wf, hwf⟩ : ∃ wf, ((((((((wd.setCell ⟨N, 0, none⟩ (.int .i64 0)).setCell ⟨N, 1, none⟩ (.string ⟨#[]⟩)).setCell ⟨N, 2, none⟩ (.int .i64 0)).setCell ⟨N, 3, none⟩ (.int .i64 0)).setCell ⟨N, 4, none⟩ (.slice none 0 0)).setCell ⟨N, 5, none⟩ (.string ⟨#[]⟩)).setCell ⟨N, 6, none⟩ (.int .i64 0)).setCell ⟨N, 7, none⟩ (.slice none 0 0)) = wf := ⟨_, rfl⟩
          rw [hwf] at hs hbs hot hss ⊢
          have r0 := blk_cell (j := 0) (v := .int .i64 0) hs rfl
          have r1 := blk_cell (j := 1) (v := .string ⟨#[]⟩) hs rfl
          have r2 := blk_cell (j := 2) (v := .int .i64 0) hs rfl
          have r3 := blk_cell (j := 3) (v := .int .i64 0) hs rfl
          have r4 := blk_cell (j := 4) (v := .slice none 0 0) hs rfl
          have r5 := blk_cell (j := 5) (v := .string ⟨#[]⟩) hs rfl
          have r6 := blk_cell (j := 6) (v := .int .i64 0) hs rfl
          have r7 := blk_cell (j := 7) (v := .slice none 0 0) hs rfl
          exact bodyPost_ret (v := .tuple #[.agg #[.int .i64 0, .string ⟨#[]⟩, .int .i64 0, .int .i64 0, .slice none 0 0, .string ⟨#[]⟩, .int .i64 0, .slice none 0 0], .int .i64 0]) (by simp [results, Try.results58, go_sem, r0, r1, r2, r3, r4, r5, r6, r7]) rfl ⟨by rw [hres.out]; rfl, by unfold Gr; rw [hN.out]; exact hb.out.trans hbs⟩
        | some n =>
          exfalso
          have h1 := hXl.out
          rw [← (decN_some hD).2] at h1
          have hg := (good_iff n).1 (decN_some hD).1
          have h2 := (enc_length n.kind.toNat (by have := hg.kind; omega)).1
          unfold encN at h1
          simp only [List.length_append] at h1
          omega
      · have hc8' : 8 < c := by omega
        have k1 : (8 : Int) ≤ (E : Int) := by omega
        have k2 : (E : Int) ≤ (c : Int) := by omega
        replace hyx : Hid (Byt X (.slice (some ⟨ab, ao + 8, none⟩) (E - 8) (c - 8)) wd) := Lib.hid (by have h := hyx.out; simpa [hLE, hc8, add_of] using h)
        replace hLE := Lib.hid hLE
        clear hE
        go_wp2_with fail
        have hdc := decode_any X (.slice (some ⟨ab, ao + 8, none⟩) (E - 8) (c - 8)) (by rw [hXl.out]; omega) wd hyx.out
        cases hD : decN X with
        | none =>
          rw [hD] at hdc
          have hr := hr.out
          rw [hD] at hr
          simp only at hr
          replace hres := Lib.hid (hres.out.trans hr.symm)
          refine hdc.mono ?_
          rintro e w5 ⟨hans, hg5⟩
          replace hans : e = _ := hans
          subst hans
          replace hb := Lib.hid (hb.out.trans (Below.mono hg5 (by omega)))
          replace hz := Lib.hid (blk_below hz.out hg5)
          replace hwl := Nat.lt_of_lt_of_le hwl hg5.size
          clear hdc hr hyx hyt hya hg5
          have hga := Gr.alloc w5 (.cells #[.int .i64 0, .string ⟨#[]⟩, .int .i64 0, .int .i64 0, .slice none 0 0, .string ⟨#[]⟩, .int .i64 0, .slice none 0 0] 25)
          replace hz := Lib.hid (blk_below hz.out hga)
          replace hb := Lib.hid (hb.out.trans (Below.mono hga (by omega)))
          go_upto_region 8 with (fail)
          obtain ⟨w6, hw6⟩ : ∃ w6, w5.alloc (.cells #[.int .i64 0, .string ⟨#[]⟩, .int .i64 0, .int .i64 0, .slice none 0 0, .string ⟨#[]⟩, .int .i64 0, .slice none 0 0] 25) = w6 := ⟨_, rfl⟩
          rw [hw6] at hz hb ⊢
          clear hga hw6
          obtain ⟨wd, hwd⟩ : ∃ wd, wd = w6.drew := ⟨_, rfl⟩
          replace hb : Hid (Below N w wd) := Lib.hid (by rw [hwd]; exact hb.out.drew)
          replace hz : Hid (wd.heap[N]? = some (.cells #[.int .i64 0, .string ⟨#[]⟩, .int .i64 0, .int .i64 0, .slice none 0 0, .string ⟨#[]⟩, .int .i64 0, .slice none 0 0] 25 (0, 0))) := Lib.hid (by rw [hwd]; exact hz.out)
          refine wpR_region (Gr) 9999 (by kernel_rfl) ?_
          (rw [← hwd]; replace hwd := Lib.hid hwd)
          refine wpR_take (i := 0) (v := ?_) (Gr.road) (some 49) rfl (by kernel_rfl) (by kernel_rfl) (by kernel_rfl) (by kernel_rfl) (by kernel_rfl) (fun _ _ _ h => h) (by kernel_rfl) (fun w' hw' => ?_) ?_
          rotate_left
          · go_simp; with_reducible rfl
          simp only [Act.put, List.setIfInBounds_toArray, List.set_cons_zero, List.set_cons_succ]
          refine wpR_take (i := 1) (v := ?_) (Gr.road) (some 50) rfl (by kernel_rfl) (by kernel_rfl) (by kernel_rfl) (by kernel_rfl) (by kernel_rfl) (fun _ _ _ h => h) (by kernel_rfl) (fun w' hw' => ?_) ?_
          rotate_left
          · go_simp; with_reducible rfl
          simp only [Act.put, List.setIfInBounds_toArray, List.set_cons_zero, List.set_cons_succ]
          refine wpR_take (i := 2) (v := ?_) (Gr.road) (some 51) rfl (by kernel_rfl) (by kernel_rfl) (by kernel_rfl) (by kernel_rfl) (by kernel_rfl) (fun _ _ _ h => h) (by kernel_rfl) (fun w' hw' => ?_) ?_
          rotate_left
          · go_simp; with_reducible rfl
          simp only [Act.put, List.setIfInBounds_toArray, List.set_cons_zero, List.set_cons_succ]
          refine wpR_skip (i := 3) (Gr.road) (some 52) rfl (by kernel_rfl) (by kernel_rfl) (by kernel_rfl) (by kernel_rfl) (by kernel_rfl) (fun _ _ _ h => h) (by kernel_rfl) ?_
          simp only [Act.put, List.setIfInBounds_toArray, List.set_cons_zero, List.set_cons_succ]
          refine wpR_skip (i := 4) (Gr.road) (some 53) rfl (by kernel_rfl) (by kernel_rfl) (by kernel_rfl) (by kernel_rfl) (by kernel_rfl) (fun _ _ _ h => h) (by kernel_rfl) ?_
          simp only [Act.put, List.setIfInBounds_toArray, List.set_cons_zero, List.set_cons_succ]
          refine wpR_skip (i := 5) (Gr.road) (some 54) rfl (by kernel_rfl) (by kernel_rfl) (by kernel_rfl) (by kernel_rfl) (by kernel_rfl) (fun _ _ _ h => h) (by kernel_rfl) ?_
          simp only [Act.put, List.setIfInBounds_toArray, List.set_cons_zero, List.set_cons_succ]
          refine wpR_skip (i := 6) (Gr.road) (some 55) rfl (by kernel_rfl) (by kernel_rfl) (by kernel_rfl) (by kernel_rfl) (by kernel_rfl) (fun _ _ _ h => h) (by kernel_rfl) ?_
          simp only [Act.put, List.setIfInBounds_toArray, List.set_cons_zero, List.set_cons_succ]
          refine wpR_skip (i := 7) (Gr.road) (some 56) rfl (by kernel_rfl) (by kernel_rfl) (by kernel_rfl) (by kernel_rfl) (by kernel_rfl) (fun _ _ _ h => h) (by kernel_rfl) ?_
          simp only [Act.put, List.setIfInBounds_toArray, List.set_cons_zero, List.set_cons_succ]
          refine wpR_skip (i := 8) (Gr.road) (some 57) rfl (by kernel_rfl) (by kernel_rfl) (by kernel_rfl) (by kernel_rfl) (by kernel_rfl) (fun _ _ _ h => h) (by kernel_rfl) ?_
          simp only [Act.put, List.setIfInBounds_toArray, List.set_cons_zero, List.set_cons_succ]
          refine wpR_skip (i := 9) (Gr.road) (some 58) rfl (by kernel_rfl) (by kernel_rfl) (by kernel_rfl) (by kernel_rfl) (by kernel_rfl) (fun _ _ _ h => h) (by kernel_rfl) ?_
          simp only [Act.put, List.setIfInBounds_toArray, List.set_cons_zero, List.set_cons_succ]
          refine wpR_skip (i := 10) (Gr.road) (some 59) rfl (by kernel_rfl) (by kernel_rfl) (by kernel_rfl) (by kernel_rfl) (by kernel_rfl) (fun _ _ _ h => h) (by kernel_rfl) ?_
          simp only [Act.put, List.setIfInBounds_toArray, List.set_cons_zero, List.set_cons_succ]
          refine wpR_skip (i := 11) (Gr.road) (some 60) rfl (by kernel_rfl) (by kernel_rfl) (by kernel_rfl) (by kernel_rfl) (by kernel_rfl) (fun _ _ _ h => h) (by kernel_rfl) ?_
          simp only [Act.put, List.setIfInBounds_toArray, List.set_cons_zero, List.set_cons_succ]
          refine wpR_take (i := 12) (v := ?_) (Gr.road) (some 61) rfl (by kernel_rfl) (by kernel_rfl) (by kernel_rfl) (by kernel_rfl) (by kernel_rfl) (fun _ _ _ h => h) (by kernel_rfl) (fun w' hw' => ?_) ?_
          rotate_left
          · go_simp; with_reducible rfl
          simp only [Act.put, List.setIfInBounds_toArray, List.set_cons_zero, List.set_cons_succ]
          refine wpR_done (by kernel_rfl) ?_ _
          have z0 := blk_cell (j := 0) (v := .int .i64 0) hz.out rfl
          have zf0 := blk_free hz.out 0
          have z1 := blk_cell (j := 1) (v := .string ⟨#[]⟩) hz.out rfl
          have zf1 := blk_free hz.out 1
          have z2 := blk_cell (j := 2) (v := .int .i64 0) hz.out rfl
          have zf2 := blk_free hz.out 2
          have z3 := blk_cell (j := 3) (v := .int .i64 0) hz.out rfl
          have zf3 := blk_free hz.out 3
          have z4 := blk_cell (j := 4) (v := .slice none 0 0) hz.out rfl
          have zf4 := blk_free hz.out 4
          have z5 := blk_cell (j := 5) (v := .string ⟨#[]⟩) hz.out rfl
          have zf5 := blk_free hz.out 5
          have z6 := blk_cell (j := 6) (v := .int .i64 0) hz.out rfl
          have zf6 := blk_free hz.out 6
          have z7 := blk_cell (j := 7) (v := .slice none 0 0) hz.out rfl
          have zf7 := blk_free hz.out 7
          go_wp2_with fail
          obtain ⟨hs, hbs, hot, hss⟩ := set8 hz.out (.int .i64 0) (.string ⟨#[]⟩) (.int .i64 0) (.int .i64 0) (.slice none 0 0) (.string ⟨#[]⟩) (.int .i64 0) (.slice none 0 0)
          obtain ⟨wf, hwf⟩ : ∃ wf, ((((((((wd.setCell ⟨N, 0, none⟩ (.int .i64 0)).setCell ⟨N, 1, none⟩ (.string ⟨#[]⟩)).setCell ⟨N, 2, none⟩ (.int .i64 0)).setCell ⟨N, 3, none⟩ (.int .i64 0)).setCell ⟨N, 4, none⟩ (.slice none 0 0)).setCell ⟨N, 5, none⟩ (.string ⟨#[]⟩)).setCell ⟨N, 6, none⟩ (.int .i64 0)).setCell ⟨N, 7, none⟩ (.slice none 0 0)) = wf := ⟨_, rfl⟩
          rw [hwf] at hs hbs hot hss ⊢
          have r0 := blk_cell (j := 0) (v := .int .i64 0) hs rfl
          have r1 := blk_cell (j := 1) (v := .string ⟨#[]⟩) hs rfl
          have r2 := blk_cell (j := 2) (v := .int .i64 0) hs rfl
          have r3 := blk_cell (j := 3) (v := .int .i64 0) hs rfl
          have r4 := blk_cell (j := 4) (v := .slice none 0 0) hs rfl
          have r5 := blk_cell (j := 5) (v := .string ⟨#[]⟩) hs rfl
          have r6 := blk_cell (j := 6) (v := .int .i64 0) hs rfl
          have r7 := blk_cell (j := 7) (v := .slice none 0 0) hs rfl
          exact bodyPost_ret (v := .tuple #[.agg #[.int .i64 0, .string ⟨#[]⟩, .int .i64 0, .int .i64 0, .slice none 0 0, .string ⟨#[]⟩, .int .i64 0, .slice none 0 0], .int .i64 0]) (by simp [results, Try.results58, go_sem, r0, r1, r2, r3, r4, r5, r6, r7]) rfl ⟨by rw [hres.out]; rfl, by unfold Gr; rw [hN.out]; exact hb.out.trans hbs⟩
        | some n =>
          rw [hD] at hdc
          have hr := hr.out
          rw [hD] at hr
          simp only at hr
          have hgood := (decN_some hD).1
          have hX2 : X.length ≤ 2000 := by rw [← (decN_some hD).2]; exact encN_len ((good_iff n).1 hgood)
          clear hgood
          refine hdc.mono ?_
          rintro e w5 ⟨⟨u, rfl, hnv⟩, hg5⟩
          obtain ⟨B0, hB0⟩ : ∃ B0, wd.heap.size = B0 := ⟨_, rfl⟩
          rw [hB0] at hnv
          have hNB : N < B0 := by omega
          have hnv' := hnv
          obtain ⟨nA, nc, nA2, nc2, rfl, -, -, -, -⟩ := hnv'
          replace hb := Lib.hid (hb.out.trans (Below.mono hg5 (by omega)))
          replace hz := Lib.hid (blk_below hz.out hg5)
          replace hyx := Byt.gr hg5 hyx
          replace hyt := Byt.gr hg5 hyt
          replace hwl := Nat.lt_of_lt_of_le hwl hg5.size
          replace hnv := Lib.hid hnv
          clear hdc hya hg5 hB0
          have hga := Gr.alloc w5 (.cells (n.cells nA nc nA2 nc2) 25)
          have hm := heap_alloc_new w5 (.cells (n.cells nA nc nA2 nc2) 25)
          obtain ⟨M, hM⟩ : ∃ M, w5.heap.size = M := ⟨_, rfl⟩
          rw [hM] at hm
          have hNM : N < M := by omega
          replace hz := Lib.hid (blk_below hz.out hga)
          replace hb := Lib.hid (hb.out.trans (Below.mono hga (by omega)))
          replace hyx := Byt.gr hga hyx
          replace hyt := Byt.gr hga hyt
          replace hnv := NtB.gr hga hnv
          replace hwl := Nat.lt_of_lt_of_le hwl hga.size
          unfold Nt.cells at hz hb hyx hyt hnv hwl hm
          unfold Nt.agg
          go_upto_region 8 with (fail)
          obtain ⟨w6, hw6⟩ : ∃ w6, w5.alloc (.cells #[.int .i64 n.kind, .string (bs n.key), .int .i64 n.gen, .int .i64 n.cart, .slice nA n.data.length nc, .string (bs n.sum), .int .i64 n.size, .slice nA2 n.places.length nc2] 25) = w6 := ⟨_, rfl⟩
          rw [hw6] at hz hb hyx hyt hnv hm hwl ⊢
          (try rw [hM])
          clear hga hw6
          obtain ⟨wd, hwd⟩ : ∃ wd, wd = w6.drew := ⟨_, rfl⟩
          replace hb : Hid (Below N w wd) := Lib.hid (by rw [hwd]; exact hb.out.drew)
          replace hz : Hid (wd.heap[N]? = some (.cells #[.int .i64 0, .string ⟨#[]⟩, .int .i64 0, .int .i64 0, .slice none 0 0, .string ⟨#[]⟩, .int .i64 0, .slice none 0 0] 25 (0, 0))) := Lib.hid (by rw [hwd]; exact hz.out)
          replace hm : Hid (wd.heap[M]? = some (.cells #[.int .i64 n.kind, .string (bs n.key), .int .i64 n.gen, .int .i64 n.cart, .slice nA n.data.length nc, .string (bs n.sum), .int .i64 n.size, .slice nA2 n.places.length nc2] 25 (0, 0))) := Lib.hid (by rw [hwd]; exact hm)
          replace hyx : Hid (Byt X (.slice (some ⟨ab, ao + 8, none⟩) (E - 8) (c - 8)) wd) := Byt.gr (w := w6) (by rw [hwd]; exact (Below.refl _ _).drew) hyx
          replace hyt : Hid (Byt (b.take E) (.slice (some ⟨ab, ao, none⟩) E c) wd) := Byt.gr (w := w6) (by rw [hwd]; exact (Below.refl _ _).drew) hyt
          replace hnv : Hid (NtB B0 n (n.agg nA nc nA2 nc2) wd) := NtB.gr (w := w6) (by rw [hwd]; exact (Below.refl _ _).drew) hnv
          replace hwl : N < wd.heap.size := by rw [hwd]; exact hwl
          by_cases hfe : frameB X = b.take E
          · rw [if_pos hfe] at hr
            replace hres := Lib.hid (hres.out.trans hr.symm)
            have hq : Hid ((frameB X == b.take E) = true) := Lib.hid (beq_iff_eq.mpr hfe)
            clear hr
            refine wpR_region (Gr) 9999 (by kernel_rfl) ?_
            (rw [← hwd]; replace hwd := Lib.hid hwd)
            refine wpR_take (i := 0) (v := ?_) (Gr.road) (some 49) rfl (by kernel_rfl) (by kernel_rfl) (by kernel_rfl) (by kernel_rfl) (by kernel_rfl) (fun _ _ _ h => h) (by kernel_rfl) (fun w' hw' => ?_) ?_
            rotate_left
            · go_simp; with_reducible rfl
            simp only [Act.put, List.setIfInBounds_toArray, List.set_cons_zero, List.set_cons_succ]
            refine wpR_take (i := 1) (v := ?_) (Gr.road) (some 50) rfl (by kernel_rfl) (by kernel_rfl) (by kernel_rfl) (by kernel_rfl) (by kernel_rfl) (fun _ _ _ h => h) (by kernel_rfl) (fun w' hw' => ?_) ?_
            rotate_left
            · go_simp; with_reducible rfl
            simp only [Act.put, List.setIfInBounds_toArray, List.set_cons_zero, List.set_cons_succ]
            refine wpR_take (i := 2) (v := ?_) (Gr.road) (some 51) rfl (by kernel_rfl) (by kernel_rfl) (by kernel_rfl) (by kernel_rfl) (by kernel_rfl) (fun _ _ _ h => h) (by kernel_rfl) (fun w' hw' => ?_) ?_
            rotate_left
            · go_simp; with_reducible rfl
            simp only [Act.put, List.setIfInBounds_toArray, List.set_cons_zero, List.set_cons_succ]
            refine wpR_take (i := 3) (v := ?_) (Gr.road) (some 52) rfl (by kernel_rfl) (by kernel_rfl) (by kernel_rfl) (by kernel_rfl) (by kernel_rfl) (fun _ _ _ h => h) (by kernel_rfl) (fun w' hw' => ?_) ?_
            rotate_left
            · go_simp; with_reducible rfl
            simp only [Act.put, List.setIfInBounds_toArray, List.set_cons_zero, List.set_cons_succ]
            refine wpR_take (i := 4) (v := ?_) (Gr.road) (some 53) rfl (by kernel_rfl) (by kernel_rfl) (by kernel_rfl) (by kernel_rfl) (by kernel_rfl) (fun _ _ _ h => h) (by kernel_rfl) (fun w' hw' => ?_) ?_
            rotate_left
            · go_simp; with_reducible rfl
            simp only [Act.put, List.setIfInBounds_toArray, List.set_cons_zero, List.set_cons_succ]
            refine wpR_take (i := 5) (v := ?_) (Gr.road) (some 54) rfl (by kernel_rfl) (by kernel_rfl) (by kernel_rfl) (by kernel_rfl) (by kernel_rfl) (fun _ _ _ h => h) (by kernel_rfl) (fun w' hw' => ?_) ?_
            rotate_left
            · go_simp; with_reducible rfl
            simp only [Act.put, List.setIfInBounds_toArray, List.set_cons_zero, List.set_cons_succ]
            refine wpR_take (i := 7) (v := ?_) (Gr.road) (some 56) rfl (by kernel_rfl) (by kernel_rfl) (by kernel_rfl) (by kernel_rfl) (by kernel_rfl) (fun _ _ _ h => h) (by kernel_rfl) (fun w' hw' => ?_) ?_
            rotate_left
            · go_simp; with_reducible rfl
            simp only [Act.put, List.setIfInBounds_toArray, List.set_cons_zero, List.set_cons_succ]
            refine wpR_take (i := 8) (v := ?_) (Gr.road) (some 57) rfl (by kernel_rfl) (by kernel_rfl) (by kernel_rfl) (by kernel_rfl) (by kernel_rfl) (fun _ _ _ h => h) (by kernel_rfl) (fun w' hw' => ?_) ?_
            rotate_left
            · go_simp; with_reducible rfl
            simp only [Act.put, List.setIfInBounds_toArray, List.set_cons_zero, List.set_cons_succ]
            refine wpR_take (i := 9) (v := ?_) (Gr.road) (some 58) rfl (by kernel_rfl) (by kernel_rfl) (by kernel_rfl) (by kernel_rfl) (by kernel_rfl) (fun _ _ _ h => h) (by kernel_rfl) (fun w' hw' => ?_) ?_
            rotate_left
            · go_simp; with_reducible rfl
            simp only [Act.put, List.setIfInBounds_toArray, List.set_cons_zero, List.set_cons_succ]
            refine wpR_one 6 rfl (by kernel_rfl) (by kernel_rfl) (fun K hK => ?_)
            go_simp
            refine (frame_any X (.slice (some ⟨ab, ao + 8, none⟩) (E - 8) (c - 8)) (by omega) _ hyx.out).mono ?_
            rintro e w6 ⟨v6, rfl, ho6, hr6⟩
            refine hK _ _ (fun _ => hr6) ?_
            clear hK K
            replace hyt := Byt.gr hr6 hyt
            replace hnv := NtB.gr hr6 hnv
            replace hz := Lib.hid (blk_below hz.out hr6)
            replace hm := Lib.hid (blk_below hm.out hr6)
            replace hb := Lib.hid (hb.out.trans (Below.mono hr6 (by omega)))
            replace hwl := Nat.lt_of_lt_of_le hwl hr6.size
            replace ho6 := Lib.hid ho6
            obtain ⟨A6, m6, c6, rfl⟩ := ho6.out.shape
            clear hr6 hyx
            try simp only [Act.put, List.setIfInBounds_toArray, List.set_cons_zero, List.set_cons_succ]
            refine wpR_one 10 rfl (by kernel_rfl) (by kernel_rfl) (fun K hK => ?_)
            go_simp
            refine (equal_b (frameB X) (b.take E) _ _ _ (Byt.ob ho6.out) hyt.out).mono ?_
            rw [hq.out]
            rintro e w7 ⟨rfl, rfl⟩
            refine hK _ _ (fun _ => Gr.refl _) ?_
            clear hK K
            try simp only [Act.put, List.setIfInBounds_toArray, List.set_cons_zero, List.set_cons_succ]
            refine wpR_take (i := 11) (v := ?_) (Gr.road) (some 60) rfl (by kernel_rfl) (by kernel_rfl) (by kernel_rfl) (by kernel_rfl) (by kernel_rfl) (fun _ _ _ h => h) (by kernel_rfl) (fun w' hw' => ?_) ?_
            rotate_left
            · go_simp; with_reducible rfl
            simp only [Act.put, List.setIfInBounds_toArray, List.set_cons_zero, List.set_cons_succ]
            refine wpR_take (i := 12) (v := ?_) (Gr.road) (some 61) rfl (by kernel_rfl) (by kernel_rfl) (by kernel_rfl) (by kernel_rfl) (by kernel_rfl) (fun _ _ _ h => h) (by kernel_rfl) (fun w' hw' => ?_) ?_
            rotate_left
            · go_simp; with_reducible rfl
            simp only [Act.put, List.setIfInBounds_toArray, List.set_cons_zero, List.set_cons_succ]
            refine wpR_done (by kernel_rfl) ?_ _
            have y0 := blk_cell (j := 0) (v := .int .i64 n.kind) hm.out rfl
            have y1 := blk_cell (j := 1) (v := .string (bs n.key)) hm.out rfl
            have y2 := blk_cell (j := 2) (v := .int .i64 n.gen) hm.out rfl
            have y3 := blk_cell (j := 3) (v := .int .i64 n.cart) hm.out rfl
            have y4 := blk_cell (j := 4) (v := .slice nA n.data.length nc) hm.out rfl
            have y5 := blk_cell (j := 5) (v := .string (bs n.sum)) hm.out rfl
            have y6 := blk_cell (j := 6) (v := .int .i64 n.size) hm.out rfl
            have y7 := blk_cell (j := 7) (v := .slice nA2 n.places.length nc2) hm.out rfl
            have z0 := blk_cell (j := 0) (v := .int .i64 0) hz.out rfl
            have zf0 := blk_free hz.out 0
            have z1 := blk_cell (j := 1) (v := .string ⟨#[]⟩) hz.out rfl
            have zf1 := blk_free hz.out 1
            have z2 := blk_cell (j := 2) (v := .int .i64 0) hz.out rfl
            have zf2 := blk_free hz.out 2
            have z3 := blk_cell (j := 3) (v := .int .i64 0) hz.out rfl
            have zf3 := blk_free hz.out 3
            have z4 := blk_cell (j := 4) (v := .slice none 0 0) hz.out rfl
            have zf4 := blk_free hz.out 4
            have z5 := blk_cell (j := 5) (v := .string ⟨#[]⟩) hz.out rfl
            have zf5 := blk_free hz.out 5
            have z6 := blk_cell (j := 6) (v := .int .i64 0) hz.out rfl
            have zf6 := blk_free hz.out 6
            have z7 := blk_cell (j := 7) (v := .slice none 0 0) hz.out rfl
            have zf7 := blk_free hz.out 7
            go_wp2_with fail
            obtain ⟨hs, hbs, hot, hss⟩ := set8 hz.out (.int .i64 n.kind) (.string (bs n.key)) (.int .i64 n.gen) (.int .i64 n.cart) (.slice nA n.data.length nc) (.string (bs n.sum)) (.int .i64 n.size) (.slice nA2 n.places.length nc2)
            obtain ⟨wf, hwf⟩ : ∃ wf, ((((((((w7.setCell ⟨N, 0, none⟩ (.int .i64 n.kind)).setCell ⟨N, 1, none⟩ (.string (bs n.key))).setCell ⟨N, 2, none⟩ (.int .i64 n.gen)).setCell ⟨N, 3, none⟩ (.int .i64 n.cart)).setCell ⟨N, 4, none⟩ (.slice nA n.data.length nc)).setCell ⟨N, 5, none⟩ (.string (bs n.sum))).setCell ⟨N, 6, none⟩ (.int .i64 n.size)).setCell ⟨N, 7, none⟩ (.slice nA2 n.places.length nc2)) = wf := ⟨_, rfl⟩
            rw [hwf] at hs hbs hot hss ⊢
            have r0 := blk_cell (j := 0) (v := .int .i64 n.kind) hs rfl
            have r1 := blk_cell (j := 1) (v := .string (bs n.key)) hs rfl
            have r2 := blk_cell (j := 2) (v := .int .i64 n.gen) hs rfl
            have r3 := blk_cell (j := 3) (v := .int .i64 n.cart) hs rfl
            have r4 := blk_cell (j := 4) (v := .slice nA n.data.length nc) hs rfl
            have r5 := blk_cell (j := 5) (v := .string (bs n.sum)) hs rfl
            have r6 := blk_cell (j := 6) (v := .int .i64 n.size) hs rfl
            have r7 := blk_cell (j := 7) (v := .slice nA2 n.places.length nc2) hs rfl
            have hnf := hnv.out.but (show N < B0 by omega) hot (Nat.le_of_eq hss.symm)
            replace hnf := hnf.lo (base' := N) (by omega)
            unfold Nt.agg at hnf
            exact bodyPost_ret (v := .tuple #[.agg #[.int .i64 n.kind, .string (bs n.key), .int .i64 n.gen, .int .i64 n.cart, .slice nA n.data.length nc, .string (bs n.sum), .int .i64 n.size, .slice nA2 n.places.length nc2], .int .i64 E]) (by simp [results, Try.results58, go_sem, r0, r1, r2, r3, r4, r5, r6, r7]) rfl ⟨by rw [hres.out, hN.out]; exact ⟨_, rfl, hnf⟩, by unfold Gr; rw [hN.out]; exact hb.out.trans hbs⟩
          · rw [if_neg hfe] at hr
            replace hres := Lib.hid (hres.out.trans hr.symm)
            have hq : Hid ((frameB X == b.take E) = false) := Lib.hid (beq_eq_false_iff_ne.mpr hfe)
            clear hr
            refine wpR_region (Gr) 9999 (by kernel_rfl) ?_
            (rw [← hwd]; replace hwd := Lib.hid hwd)
            refine wpR_take (i := 0) (v := ?_) (Gr.road) (some 49) rfl (by kernel_rfl) (by kernel_rfl) (by kernel_rfl) (by kernel_rfl) (by kernel_rfl) (fun _ _ _ h => h) (by kernel_rfl) (fun w' hw' => ?_) ?_
            rotate_left
            · go_simp; with_reducible rfl
            simp only [Act.put, List.setIfInBounds_toArray, List.set_cons_zero, List.set_cons_succ]
            refine wpR_take (i := 1) (v := ?_) (Gr.road) (some 50) rfl (by kernel_rfl) (by kernel_rfl) (by kernel_rfl) (by kernel_rfl) (by kernel_rfl) (fun _ _ _ h => h) (by kernel_rfl) (fun w' hw' => ?_) ?_
            rotate_left
            · go_simp; with_reducible rfl
            simp only [Act.put, List.setIfInBounds_toArray, List.set_cons_zero, List.set_cons_succ]
            refine wpR_take (i := 2) (v := ?_) (Gr.road) (some 51) rfl (by kernel_rfl) (by kernel_rfl) (by kernel_rfl) (by kernel_rfl) (by kernel_rfl) (fun _ _ _ h => h) (by kernel_rfl) (fun w' hw' => ?_) ?_
            rotate_left
            · go_simp; with_reducible rfl
            simp only [Act.put, List.setIfInBounds_toArray, List.set_cons_zero, List.set_cons_succ]
            refine wpR_take (i := 3) (v := ?_) (Gr.road) (some 52) rfl (by kernel_rfl) (by kernel_rfl) (by kernel_rfl) (by kernel_rfl) (by kernel_rfl) (fun _ _ _ h => h) (by kernel_rfl) (fun w' hw' => ?_) ?_
            rotate_left
            · go_simp; with_reducible rfl
            simp only [Act.put, List.setIfInBounds_toArray, List.set_cons_zero, List.set_cons_succ]
            refine wpR_take (i := 4) (v := ?_) (Gr.road) (some 53) rfl (by kernel_rfl) (by kernel_rfl) (by kernel_rfl) (by kernel_rfl) (by kernel_rfl) (fun _ _ _ h => h) (by kernel_rfl) (fun w' hw' => ?_) ?_
            rotate_left
            · go_simp; with_reducible rfl
            simp only [Act.put, List.setIfInBounds_toArray, List.set_cons_zero, List.set_cons_succ]
            refine wpR_take (i := 5) (v := ?_) (Gr.road) (some 54) rfl (by kernel_rfl) (by kernel_rfl) (by kernel_rfl) (by kernel_rfl) (by kernel_rfl) (fun _ _ _ h => h) (by kernel_rfl) (fun w' hw' => ?_) ?_
            rotate_left
            · go_simp; with_reducible rfl
            simp only [Act.put, List.setIfInBounds_toArray, List.set_cons_zero, List.set_cons_succ]
            refine wpR_take (i := 7) (v := ?_) (Gr.road) (some 56) rfl (by kernel_rfl) (by kernel_rfl) (by kernel_rfl) (by kernel_rfl) (by kernel_rfl) (fun _ _ _ h => h) (by kernel_rfl) (fun w' hw' => ?_) ?_
            rotate_left
            · go_simp; with_reducible rfl
            simp only [Act.put, List.setIfInBounds_toArray, List.set_cons_zero, List.set_cons_succ]
            refine wpR_take (i := 8) (v := ?_) (Gr.road) (some 57) rfl (by kernel_rfl) (by kernel_rfl) (by kernel_rfl) (by kernel_rfl) (by kernel_rfl) (fun _ _ _ h => h) (by kernel_rfl) (fun w' hw' => ?_) ?_
            rotate_left
            · go_simp; with_reducible rfl
            simp only [Act.put, List.setIfInBounds_toArray, List.set_cons_zero, List.set_cons_succ]
            refine wpR_take (i := 9) (v := ?_) (Gr.road) (some 58) rfl (by kernel_rfl) (by kernel_rfl) (by kernel_rfl) (by kernel_rfl) (by kernel_rfl) (fun _ _ _ h => h) (by kernel_rfl) (fun w' hw' => ?_) ?_
            rotate_left
            · go_simp; with_reducible rfl
            simp only [Act.put, List.setIfInBounds_toArray, List.set_cons_zero, List.set_cons_succ]
            refine wpR_one 6 rfl (by kernel_rfl) (by kernel_rfl) (fun K hK => ?_)
            go_simp
            refine (frame_any X (.slice (some ⟨ab, ao + 8, none⟩) (E - 8) (c - 8)) (by omega) _ hyx.out).mono ?_
            rintro e w6 ⟨v6, rfl, ho6, hr6⟩
            refine hK _ _ (fun _ => hr6) ?_
            clear hK K
            replace hyt := Byt.gr hr6 hyt
            replace hnv := NtB.gr hr6 hnv
            replace hz := Lib.hid (blk_below hz.out hr6)
            replace hm := Lib.hid (blk_below hm.out hr6)
            replace hb := Lib.hid (hb.out.trans (Below.mono hr6 (by omega)))
            replace hwl := Nat.lt_of_lt_of_le hwl hr6.size
            replace ho6 := Lib.hid ho6
            obtain ⟨A6, m6, c6, rfl⟩ := ho6.out.shape
            clear hr6 hyx
            try simp only [Act.put, List.setIfInBounds_toArray, List.set_cons_zero, List.set_cons_succ]
            refine wpR_one 10 rfl (by kernel_rfl) (by kernel_rfl) (fun K hK => ?_)
            go_simp
            refine (equal_b (frameB X) (b.take E) _ _ _ (Byt.ob ho6.out) hyt.out).mono ?_
            rw [hq.out]
            rintro e w7 ⟨rfl, rfl⟩
            refine hK _ _ (fun _ => Gr.refl _) ?_
            clear hK K
            try simp only [Act.put, List.setIfInBounds_toArray, List.set_cons_zero, List.set_cons_succ]
            refine wpR_take (i := 11) (v := ?_) (Gr.road) (some 60) rfl (by kernel_rfl) (by kernel_rfl) (by kernel_rfl) (by kernel_rfl) (by kernel_rfl) (fun _ _ _ h => h) (by kernel_rfl) (fun w' hw' => ?_) ?_
            rotate_left
            · go_simp; with_reducible rfl
            simp only [Act.put, List.setIfInBounds_toArray, List.set_cons_zero, List.set_cons_succ]
            refine wpR_take (i := 12) (v := ?_) (Gr.road) (some 61) rfl (by kernel_rfl) (by kernel_rfl) (by kernel_rfl) (by kernel_rfl) (by kernel_rfl) (fun _ _ _ h => h) (by kernel_rfl) (fun w' hw' => ?_) ?_
            rotate_left
            · go_simp; with_reducible rfl
            simp only [Act.put, List.setIfInBounds_toArray, List.set_cons_zero, List.set_cons_succ]
            refine wpR_done (by kernel_rfl) ?_ _
            have z0 := blk_cell (j := 0) (v := .int .i64 0) hz.out rfl
            have zf0 := blk_free hz.out 0
            have z1 := blk_cell (j := 1) (v := .string ⟨#[]⟩) hz.out rfl
            have zf1 := blk_free hz.out 1
            have z2 := blk_cell (j := 2) (v := .int .i64 0) hz.out rfl
            have zf2 := blk_free hz.out 2
            have z3 := blk_cell (j := 3) (v := .int .i64 0) hz.out rfl
            have zf3 := blk_free hz.out 3
            have z4 := blk_cell (j := 4) (v := .slice none 0 0) hz.out rfl
            have zf4 := blk_free hz.out 4
            have z5 := blk_cell (j := 5) (v := .string ⟨#[]⟩) hz.out rfl
            have zf5 := blk_free hz.out 5
            have z6 := blk_cell (j := 6) (v := .int .i64 0) hz.out rfl
            have zf6 := blk_free hz.out 6
            have z7 := blk_cell (j := 7) (v := .slice none 0 0) hz.out rfl
            have zf7 := blk_free hz.out 7
            go_wp2_with fail
            obtain ⟨hs, hbs, hot, hss⟩ := set8 hz.out (.int .i64 0) (.string ⟨#[]⟩) (.int .i64 0) (.int .i64 0) (.slice none 0 0) (.string ⟨#[]⟩) (.int .i64 0) (.slice none 0 0)
            obtain ⟨wf, hwf⟩ : ∃ wf, ((((((((w7.setCell ⟨N, 0, none⟩ (.int .i64 0)).setCell ⟨N, 1, none⟩ (.string ⟨#[]⟩)).setCell ⟨N, 2, none⟩ (.int .i64 0)).setCell ⟨N, 3, none⟩ (.int .i64 0)).setCell ⟨N, 4, none⟩ (.slice none 0 0)).setCell ⟨N, 5, none⟩ (.string ⟨#[]⟩)).setCell ⟨N, 6, none⟩ (.int .i64 0)).setCell ⟨N, 7, none⟩ (.slice none 0 0)) = wf := ⟨_, rfl⟩
            rw [hwf] at hs hbs hot hss ⊢
            have r0 := blk_cell (j := 0) (v := .int .i64 0) hs rfl
            have r1 := blk_cell (j := 1) (v := .string ⟨#[]⟩) hs rfl
            have r2 := blk_cell (j := 2) (v := .int .i64 0) hs rfl
            have r3 := blk_cell (j := 3) (v := .int .i64 0) hs rfl
            have r4 := blk_cell (j := 4) (v := .slice none 0 0) hs rfl
            have r5 := blk_cell (j := 5) (v := .string ⟨#[]⟩) hs rfl
            have r6 := blk_cell (j := 6) (v := .int .i64 0) hs rfl
            have r7 := blk_cell (j := 7) (v := .slice none 0 0) hs rfl
            exact bodyPost_ret (v := .tuple #[.agg #[.int .i64 0, .string ⟨#[]⟩, .int .i64 0, .int .i64 0, .slice none 0 0, .string ⟨#[]⟩, .int .i64 0, .slice none 0 0], .int .i64 0]) (by simp [results, Try.results58, go_sem, r0, r1, r2, r3, r4, r5, r6, r7]) rfl ⟨by rw [hres.out]; rfl, by unfold Gr; rw [hN.out]; exact hb.out.trans hbs⟩
end Go.Proofs.Ytgdbbjijneidaaa
