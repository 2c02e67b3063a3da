/- rs.Encode: the product of the code and the parts. -/
import Derived.Test.YtdgkcgiknfjpjaaBaseB
import Derived.Test.YtdgkcgiknfjpjaaMatC
import Derived.Lib.AppendZeros
import Derived.Test.YtdgkcgiknfjpjaaMatB
namespace Go.Proofs.Ytdgkcgiknfjpjaa
set_option linter.unusedVariables false
set_option linter.unusedSimpArgs false
open Go Go.RowKit
set_option maxHeartbeats 4000000 in
set_option maxRecDepth 20000 in
theorem chunk_any (A : Option Addr) (n c m : Nat) (hm : 1 ≤ m) (w : World) :
    Calls Try.prog 63 #[.slice A n c, .int .i64 m] w fun e w' => e = .returned (.func (.func 91) #[] #[.pointer (some ⟨w.heap.size, 0, none⟩), .pointer (some ⟨w.heap.size + 1, 0, none⟩)]) ∧ w' = (w.alloc (.cells #[.slice A n c] 22)).alloc (.cells #[.int .i64 m] 3) := by
  have d1 : decide ((m : Int) < 1) = false := decide_eq_false (by omega)
  go_enter Try.func63, Try.ntmps63
  go_wp2_with fail
  go_ret
  exact ⟨rfl, rfl⟩
theorem rd_flat {w : World} {B : Nat} {A : Option Addr} {l : List UInt8} (h : Rd w B A l) (hl : 0 < l.length) : ∃ b o, A = some ⟨b, o, none⟩ ∧ b < B ∧ ∀ (j : Nat) (u : UInt8), l[j]? = some u → w.cell? ⟨b, o + j, none⟩ = some (.int .u8 (U u)) := by
  obtain ⟨ad, rfl, hb, hc⟩ := h.2 (by simpa using hl)
  obtain ⟨b, o, s⟩ := ad
  have e : s = none := by
    have h0 := hc 0 (vb (l[0]'hl)) (by simp [hl])
    cases s with
    | none => rfl
    | some s =>
      exfalso
      have e : (⟨b, o, some s⟩ : Addr).add 0 = ⟨b, o, some s⟩ := by unfold Addr.add; rw [if_pos rfl]
      rw [e] at h0
      unfold World.cell? at h0
      simp only [Option.isSome_some, if_true] at h0
      split at h0 <;> cases h0
  subst e
  refine ⟨b, o, rfl, hb, fun j u hu => ?_⟩
  have h1 := hc j (vb u) (by rw [List.getElem?_map, hu]; rfl)
  rw [show (⟨b, o, none⟩ : Addr).add j = ⟨b, o + j, none⟩ from by unfold Addr.add; split <;> simp_all] at h1
  exact h1
/-- the parts of bytes, as a matrix -/
def partM (m : Nat) (l : List UInt8) : Mx := fun k j => l.getD (k * m + j) 0
theorem rd_part {w : World} {B b o : Nat} {l : List UInt8} (hb : b < B) (h : ∀ (j : Nat) (u : UInt8), l[j]? = some u → w.cell? ⟨b, o + j, none⟩ = some (.int .u8 (U u))) {k m : Nat} (hk : k * m + m ≤ l.length) : Rd w B (some ⟨b, o + k * m, none⟩) (row m (partM m l k)) := by
  refine ⟨by simp, fun _ => ⟨_, rfl, hb, fun j u hu => ?_⟩⟩
  rw [List.getElem?_map, Option.map_eq_some_iff] at hu
  obtain ⟨x, hx, rfl⟩ := hu
  have hj : j < m := by have := (List.getElem?_eq_some_iff.mp hx).1; rwa [row_length] at this
  rw [row_get hj] at hx
  injection hx with hx
  rw [show (⟨b, o + k * m, none⟩ : Addr).add j = ⟨b, o + k * m + j, none⟩ from by unfold Addr.add; split <;> simp_all]
  have h1 := h (k * m + j) (l[k * m + j]'(by omega)) (List.getElem?_eq_getElem (by omega))
  rw [Nat.add_assoc, h1, ← hx]
  unfold partM
  rw [List.getD_eq_getElem?_getD, List.getElem?_eq_getElem (by omega)]
  rfl
theorem chunks_tbl {w : World} {B b o q m : Nat} {l : List UInt8} {v : Value} (hB : B ≤ w.heap.size) (hb : b < B) (hq : q ≤ 1000000) (hm : m ≤ 1000000) (h : ∀ (j : Nat) (u : UInt8), l[j]? = some u → w.cell? ⟨b, o + j, none⟩ = some (.int .u8 (U u))) (hl : l.length = q * m)
    (hv : w.ownsRow B 22 1 v q ((List.finRange q).map (fun x : Fin q => Value.slice (some ⟨b, o + x.1 * m, none⟩) m m))) : Tbl (tabM q m (partM m l)) v w := by
  by_cases hn : 0 < q
  · obtain ⟨g, c, rfl, h4, h5, h6, h7, -, -, h8, -⟩ := row_at hv hn
    refine ⟨_, c, by rw [tabM_length], by rw [tabM_length]; exact h4, h5, rfl, fun _ => ⟨g, 0, rfl, h7, fun i r hr => ?_⟩⟩
    have hi : i < q := by have := (List.getElem?_eq_some_iff.mp hr).1; rwa [tabM_length] at this
    rw [tabM_get hi] at hr
    injection hr with hr
    subst hr
    refine ⟨some ⟨b, o + i * m, none⟩, m, ?_, by rw [row_length]; exact Nat.le_refl _, by simp only [maxLen]; omega, (rd_part hb h ?_).more hB⟩
    · rw [Nat.zero_add, row_length]
      refine h8 i _ ?_
      rw [List.getElem?_map, List.getElem?_eq_getElem (by rw [List.length_finRange]; exact hi)]
      simp
    · rw [hl]
      have := Nat.mul_le_mul_right m (show i + 1 ≤ q by omega)
      rw [Nat.succ_mul] at this
      omega
  · obtain rfl : q = 0 := by omega
    obtain ⟨A, c, e, h4, h5⟩ := row_form hv
    exact ⟨A, c, e, h4, h5, rfl, fun h => absurd h (by simp [tabM])⟩
/-- slices.Collect of the chunks -/
theorem collect_any (Bs Bn b off cap q m : Nat) (hm : 1 ≤ m) (Q : Nat) (hQ : q * m = Q) (hreach : Q + m ≤ 1000000) (hcap : Q ≤ cap) (hcm : cap ≤ maxLen)
    (w : World) (hs : Bs < w.heap.size) (hn0 : Bn < w.heap.size) (hBs : w.cell? ⟨Bs, 0, none⟩ = some (.slice (some ⟨b, off, none⟩) Q cap)) (hBn : w.cell? ⟨Bn, 0, none⟩ = some (.int .i64 m)) :
    Calls Try.prog 40 #[.func (.func 91) #[] #[.pointer (some ⟨Bs, 0, none⟩), .pointer (some ⟨Bn, 0, none⟩)]] w fun e W' => ∃ v, e = .returned v ∧ W'.ownsRow w.heap.size 22 1 v q ((List.finRange q).map (fun x : Fin q => Value.slice (some ⟨b, off + x.1 * m, none⟩) m m)) ∧ Below w.heap.size w W' := by
  have h := Lib.hid (callsIn_wide.1 (appendSeq_in Fence.wide 3 trivial trivial rfl (Nat.le_refl _) Bs Bn b off cap q m hm Q hQ hreach hcap hcm w hs hn0 hBs hBn))
  clear hBs hBn
  replace hQ := Lib.hid hQ
  go_enter Try.func40, Try.ntmps40
  go_wp2_with fail
  refine h.out.mono ?_
  rintro e w' ⟨v, rfl, h1, h2⟩
  replace h1 := Lib.hid h1
  replace h2 := Lib.hid h2
  go_wp2_with fail
  go_ret
  exact ⟨_, rfl, h1.out, h2.out⟩
/-! ### Encode -/
def encM (l : List UInt8) : Mx := mm 8 (codeE 8) (partM 16 l)
set_option maxHeartbeats 8000000 in
set_option maxRecDepth 20000 in
theorem rsenc_ok (A : Option Addr) (c : Nat) (l : List UInt8) (hc : 128 ≤ c) (hcm : c ≤ maxLen) (hl : l.length = 128) (w : World) (h : Rd w w.heap.size A l) :
    Calls Try.prog 45 #[.slice A 128 c] w fun e w' => ∃ g G C, e = .returned (.tuple #[.slice (some ⟨g, 0, none⟩) 10 10, .int .i64 0]) ∧ TB w' w.heap.size g 10 16 G C (encM l) ∧ Below w.heap.size w w' := by
  obtain ⟨b, o, rfl, hb, hcell⟩ := rd_flat h (by omega)
  have hbb : Below w.heap.size w ((w.alloc (.cells #[.slice (some ⟨b, o, none⟩) 128 c] 22)).alloc (.cells #[.int .i64 16] 3)) := ((Below.refl _ w).alloc (Nat.le_refl _) _).alloc (by simp) _
  have hch := Lib.hid (chunk_any (some ⟨b, o, none⟩) 128 c 16 (by decide) w)
  have hcell1 : ((w.alloc (.cells #[.slice (some ⟨b, o, none⟩) 128 c] 22)).alloc (.cells #[.int .i64 16] 3)).cell? ⟨w.heap.size, 0, none⟩ = some (.slice (some ⟨b, o, none⟩) 128 c) :=
    ((((Below.refl _ (w.alloc (.cells #[.slice (some ⟨b, o, none⟩) 128 c] 22))).alloc (Nat.le_refl _) (.cells #[.int .i64 16] 3))).cell (p := ⟨w.heap.size, 0, none⟩) (by simp)).trans (blk_cell (heap_alloc_new w _) rfl)
  have hcell2 : ((w.alloc (.cells #[.slice (some ⟨b, o, none⟩) 128 c] 22)).alloc (.cells #[.int .i64 16] 3)).cell? ⟨w.heap.size + 1, 0, none⟩ = some (.int .i64 16) := by
    have h1 := blk_cell (j := 0) (v := .int .i64 16) (heap_alloc_new (w.alloc (.cells #[.slice (some ⟨b, o, none⟩) 128 c] 22)) (.cells #[.int .i64 16] 3)) rfl
    rw [World.size_alloc] at h1
    exact h1
  have hco := Lib.hid (collect_any w.heap.size (w.heap.size + 1) b o c 8 16 (by decide) 128 rfl (by decide) hc hcm _ (by simp <;> omega) (by simp <;> omega) hcell1 hcell2)
  have hsz : w.heap.size ≤ ((w.alloc (.cells #[.slice (some ⟨b, o, none⟩) 128 c] 22)).alloc (.cells #[.int .i64 16] 3)).heap.size := hbb.size
  replace hbb := Lib.hid hbb
  replace hcell := Lib.hid hcell
  replace hl := Lib.hid hl
  replace hcm := Lib.hid hcm
  clear h hcell1 hcell2
  go_enter Try.func45, Try.ntmps45
  go_wp2_with fail
  refine hch.out.mono ?_
  rintro e w1 ⟨rfl, rfl⟩
  clear hch
  go_wp2_with fail
  refine hco.out.mono ?_
  rintro e w2 ⟨u2, rfl, hu2, hb2⟩
  have hq2 : Gr w w2 := hbb.out.trans (hb2.mono hsz)
  have hT : Hid (Tbl (tabM 8 16 (partM 16 l)) u2 w2) := Lib.hid (chunks_tbl hb2.size (Nat.lt_of_lt_of_le hb hsz) (by decide) (by decide) (fun j u hu => (hq2.cell (p := ⟨b, o + j, none⟩) hb).trans (hcell.out j u hu)) hl.out hu2)
  have hq : Hid (Gr w w2) := Lib.hid hq2
  clear hq2 hco hb2 hu2 hbb hcell hsz
  go_wp2_with fail
  refine (code_tbl 8 10 (by decide) (by decide) (by decide) _).mono ?_
  rintro e w3 ⟨u3, rfl, hu3, hr⟩
  replace hq := Gr.go hq hr
  replace hT := Tbl.gr hr hT
  clear hr
  obtain ⟨A3, c3, rfl, t1, t2, t3⟩ := hu3
  obtain ⟨A2, c2, rfl, s1, s2, s3⟩ := hT.out
  have hf : fits (tabM 10 8 (codeE 8)) (tabM 8 16 (partM 16 l)) = true := fits_iff.mpr ⟨(isTab_tabM (by decide) (by decide) (by decide) (by decide) _).1, (isTab_tabM (by decide) (by decide) (by decide) (by decide) _).1, by rw [(isTab_tabM (by decide) (by decide) (by decide) (by decide) _).2, tabM_length]⟩
  have ht := Lib.hid (times_ok A3 _ c3 _ t1 A2 _ c2 _ s1 w3 t3 s3 hf)
  rw [tabM_length, tabM_length, (isTab_tabM (n := 8) (m := 16) (by decide) (by decide) (by decide) (by decide) (partM 16 l)).2] at ht
  clear t1 t2 t3 s1 s2 s3 hf hT
  rw [tabM_length, tabM_length]
  go_wp2_with fail
  refine ht.out.mono ?_
  rintro e w4 ⟨g, G, C, rfl, htb, hr⟩
  have htb2 : Hid (TB w4 w.heap.size g 10 16 G C (encM l)) := Lib.hid ((htb.congr (fun i j hi hj => by
    unfold encM
    exact mm_congr (fun k hk => (ent_tabM hi hk _).symm) (fun k hk => (ent_tabM hk hj _).symm))).more hq.out.size)
  replace hq := Gr.go hq hr
  clear htb hr ht
  go_wp2_with fail
  go_ret2
  exact ⟨g, G, C, rfl, htb2.out, hq.out⟩
end Go.Proofs.Ytdgkcgiknfjpjaa
/- slices.Grow of nil, slices.Concat. -/
namespace Go.Proofs.Ytdgkcgiknfjpjaa
set_option linter.unusedVariables false
set_option linter.unusedSimpArgs false
open Go Go.RowKit
theorem infoB : (Try.prog.info? 5).map (fun i => (i.zero, i.size, i.bytes)) = some (some (.int .u8 0), 1, 1) := by kernel_rfl
set_option maxHeartbeats 4000000 in
set_option maxRecDepth 20000 in
theorem grow_any (n : Nat) (h1 : 1 ≤ n) (hn : n ≤ 1000000) (w : World) :
    Calls Try.prog 64 #[.slice none 0 0, .int .i64 n] w fun e w' => ∃ v, e = .returned v ∧ Hid (OB w' w.heap.size v []) ∧ Below w.heap.size w w' := by
  obtain ⟨i0, hi, hz0, hz1, hz2⟩ := info_parts infoB
  have d1 : decide ((n : Int) < 0) = false := decide_eq_false (by omega)
  have i1 : (0 : Int) < (n : Int) := by omega
  have hrun := Lib.hid (Lib.run_append_nil_zeros (P := Try.prog) w 22 3 22 5 i0 (.int .u8 0) .i64 .i64 Try.underlying22 Try.underlying3 hi hz0 n (by omega) (by rw [hz1]; decide) (by omega) (by rw [hz2]; omega))
  replace hi := Lib.hid hi
  replace hz0 := Lib.hid hz0
  replace hz1 := Lib.hid hz1
  replace hz2 := Lib.hid hz2
  go_enter Try.func64, Try.ntmps64
  go_wp2_with (at_builtin; refine Lib.wpList_append_run _ rfl (.tmp 20) (.tmp 21) 22 3 rfl _ _ rfl rfl _ _ hrun.out ?_)
  go_ret
  refine ⟨_, rfl, Lib.hid ?_, ?_⟩
  · have h9 := World.ownsRow_made (base := w.heap.size) (e := 5) (size := 1) w (Builtin.zeroCells #[.int .u8 0] n ++ Builtin.zeroCells #[.int .u8 0] (grownCap w n 0 5 - n)) (grownCap w n 0 5) (Nat.le_refl _) (grownCap_le_maxLen w n 0 _ (by simp only [maxLen]; omega)) (by
      have := grownCap_ge w n 0 5
      rw [Array.size_append, size_zeroCells, size_zeroCells]
      simp only [List.size_toArray, List.length_cons, List.length_nil]
      omega)
    exact h9
  · exact (Below.refl w.heap.size w).trans (((Below.refl _ w).alloc (Nat.le_refl _) _).trans (Below.refl _ _).drew)
def flat (n m : Nat) (D : Mx) : List UInt8 := (List.range n).flatMap (fun i => row m (D i))
theorem flat_succ (n m : Nat) (D : Mx) : flat (n + 1) m D = flat n m D ++ row m (D n) := by
  unfold flat
  rw [List.range_succ, List.flatMap_append]
  simp
theorem flat_length (n m : Nat) (D : Mx) : (flat n m D).length = n * m := by
  induction n with
  | zero => simp [flat]
  | succ n ih => rw [flat_succ, List.length_append, ih, row_length, Nat.succ_mul]
set_option maxHeartbeats 8000000 in
set_option maxRecDepth 20000 in
theorem concat_any (n m : Nat) (D : Mx) (h1 : 1 ≤ n) (hn : n ≤ 32) (hm1 : 1 ≤ m) (hm : m ≤ 128) {v : Value} (w : World) (h : Tbl (tabM n m D) v w) :
    Calls Try.prog 43 #[v] w fun e w' => ∃ A c, e = .returned (.slice A (n * m) c) ∧ Hid (OB w' w.heap.size (.slice A (n * m) c) (flat n m D)) ∧ Below w.heap.size w w' := by
  obtain ⟨A, c, rfl, a1, a2, a3⟩ := h
  rw [tabM_length] at a1 a3 ⊢
  obtain ⟨b, o, A0, c0, l0, rfl, hb, -⟩ := a3.at_ (i := 0) (by omega)
  have hRT := Lib.hid a3
  clear a3 hb
  go_enter Try.func43, Try.ntmps43
  go_wp2_with fail
  go_loopw [3, 11] (fun sz i wr => ∃ (k t : Nat), k ≤ n ∧ i = .int .i64 k ∧ sz = .int .i64 t ∧ Hid (k * m = t) ∧ w = wr) (fun _ i _ => n - (intOf i).toNat)
  case atStart => exact ⟨0, 0, Nat.zero_le _, rfl, rfl, Lib.hid (Nat.zero_mul _), rfl⟩
  case round =>
    obtain ⟨k, t, hk, rfl, rfl, ht, rfl⟩ := hrel
    by_cases hlt : k < n
    · have ik : (k : Int) < (n : Int) := by omega
      obtain ⟨b', o', A', c', r, e, -, hr, hcell, hrc, -, -⟩ := hRT.out.at_ hlt
      injection e with e
      injection e with e1 e2 e3
      subst e1 e2
      rw [tabM_get hlt] at hr
      injection hr with hr
      rw [← hr, row_length] at hcell hrc
      have htk : t ≤ 4096 := by
        have h8 := ht.out
        have h9 := Nat.mul_le_mul (show k ≤ 32 by omega) hm
        omega
      have ht2 : Hid ((k + 1) * m = t + m) := Lib.hid (by rw [Nat.succ_mul, ht.out])
      have d1 : decide ((t : Int) + (m : Int) < 0) = false := decide_eq_false (by omega)
      clear e3 hr
      go_wp2_with fail
      go_roundw
      case rel => first | exact ⟨k + 1, t + m, by omega, by go_num, by go_num, ht2, by first | rfl | trivial⟩ | ((repeat apply Exists.intro); exact ⟨⟨k + 1, t + m, by omega, by go_num, by go_num, ht2, by first | rfl | trivial⟩, rfl⟩)
      case measure => simp [intOf]; omega
    · obtain rfl : k = n := by omega
      have htk : t ≤ 4096 := by
        have h8 := ht.out
        have h9 := Nat.mul_le_mul hn hm
        omega
      have ht1 : 1 ≤ t := by
        have h8 := ht.out
        have h9 := Nat.mul_le_mul h1 hm1
        omega
      have ik : decide ((k : Int) < (k : Int)) = false := decide_eq_false (by omega)
      have hg := Lib.hid (grow_any t ht1 (by omega) w)
      go_wp2_with fail
      refine hg.out.mono ?_
      rintro e w1 ⟨v1, rfl, ho1, hb1⟩
      have hRT1 := Lib.hid (hRT.out.up hb1)
      have hq1 := Lib.hid hb1
      obtain ⟨A1, c1, rfl, -, -, -⟩ := ho1.out.form
      have hoo : Hid (OB w1 w.heap.size (.slice A1 0 c1) (flat 0 m D)) := ho1
      rw [List.length_nil]
      clear hg hb1 ho1
      go_wp2_with fail
      go_loopw [6, 27] (fun s i wr => ∃ (j t : Nat) (A2 : Option Addr) (c2 : Nat), j ≤ k ∧ i = .int .i64 j ∧ s = .slice A2 t c2 ∧ Hid (j * m = t) ∧ Hid (OB wr w.heap.size (.slice A2 t c2) (flat j m D)) ∧ Hid (Below w.heap.size w wr)) (fun _ i _ => k - (intOf i).toNat)
      case atStart => exact ⟨0, 0, _, _, Nat.zero_le _, rfl, rfl, Lib.hid (Nat.zero_mul _), hoo, hq1⟩
      case round =>
        obtain ⟨j, t2, A2, c2, hj, rfl, rfl, htj, ho2, hq2⟩ := hrel
        clear hoo hq1 hRT1
        obtain ⟨wo, hwo⟩ : ∃ wo, wo = wr := ⟨_, rfl⟩
        subst hwo
        by_cases hlt : j < k
        · have ij : (j : Int) < (k : Int) := by omega
          obtain ⟨b', o', A', c', r, e, -, hr, hcell, hrc, -, hrd⟩ := (hRT.out.up hq2.out).at_ hlt
          injection e with e
          injection e with e1 e2 e3
          subst e1 e2
          rw [tabM_get hlt] at hr
          injection hr with hr
          rw [← hr] at hrd
          rw [← hr, row_length] at hcell hrc
          have hrd' := Lib.hid hrd
          have ht2 : Hid ((j + 1) * m = t2 + m) := Lib.hid (by rw [Nat.succ_mul, htj.out])
          have hbd : Hid ((flat j m D).length + m ≤ 140737488355328) := Lib.hid (by
            rw [flat_length]
            have h9 := Nat.mul_le_mul (show j ≤ 32 by omega) hm
            omega)
          have hfl : Hid ((flat j m D).length = t2) := Lib.hid (by rw [flat_length]; exact htj.out)
          clear e3 hr hrd
          have hws := hq2.out.size
          go_wp2_with (at_builtin; go_must (refine wpl_append rfl (.tmp 31) (.tmp 32) rfl w.heap.size (.slice A2 t2 c2) (flat j m D) rfl ho2.out _ A' c' (row m (D j)) (by rw [row_length]; rfl) hrd'.out (by rw [row_length]; exact hbd.out) hws ?_); intro v8 w8 ho8 hg8 _; have hq8 := Lib.hid (below_row ho2.out hq2.out hws hg8); rw [← flat_succ] at ho8; obtain ⟨A8, c8, rfl, -, -, -, -⟩ := ho8.form; rw [flat_length, ht2.out] at ho8 ⊢; replace ho8 := Lib.hid ho8; clear hg8)
          go_roundw
          case rel => first | exact ⟨j + 1, t2 + m, A8, c8, by omega, by go_num, rfl, ht2, ho8, hq8⟩ | ((repeat apply Exists.intro); exact ⟨⟨j + 1, t2 + m, A8, c8, by omega, by go_num, rfl, ht2, ho8, hq8⟩, rfl⟩)
          case measure => simp [intOf]; omega
        · obtain rfl : j = k := by omega
          have ij : decide ((j : Int) < (j : Int)) = false := decide_eq_false (by omega)
          have htt := htj.out
          replace ht := Lib.hid ht
          go_wp2_with fail
          go_ret
          subst htt
          exact ⟨A2, c2, rfl, ho2, hq2.out⟩
end Go.Proofs.Ytdgkcgiknfjpjaa
