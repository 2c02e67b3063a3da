/- Frames of notes: slices.Concat, the four bytes of a number, frame. -/
import Derived.Lib.AppendZeros
import Derived.Test.YtgdbbjijneidaaaJr5
import Derived.Test.YtgdbbjijneidaaaSumWalk
namespace Go.Proofs.Ytgdbbjijneidaaa
set_option linter.unusedVariables false
set_option linter.unusedSimpArgs false
open Go Go.RowKit
theorem infoB : (Try.prog.info? 5).map (fun i => (i.zero, i.size, i.bytes)) = some (some (.int .u8 0), 1, 1) := by kernel_rfl
set_option maxHeartbeats 4000000 in
set_option maxRecDepth 20000 in
theorem grow_any (n : Nat) (h1 : 1 ≤ n) (hn : n ≤ 1000000) (w : World) :
    Calls Try.prog 85 #[.slice none 0 0, .int .i64 n] w fun e w' => ∃ v, e = .returned v ∧ Hid (OB w' w.heap.size v []) ∧ Below w.heap.size w w' := by
  obtain ⟨i0, hi, hz0, hz1, hz2⟩ := info_parts infoB
  have d1 : decide ((n : Int) < 0) = false := decide_eq_false (by omega)
  have i1 : (0 : Int) < (n : Int) := by omega
  have hrun := Lib.hid (Lib.run_append_nil_zeros (P := Try.prog) w 22 3 22 5 i0 (.int .u8 0) .i64 .i64 Try.underlying22 Try.underlying3 hi hz0 n (by omega) (by rw [hz1]; decide) (by omega) (by rw [hz2]; omega))
  replace hi := Lib.hid hi
  replace hz0 := Lib.hid hz0
  replace hz1 := Lib.hid hz1
  replace hz2 := Lib.hid hz2
  go_enter Try.func85, Try.ntmps85
  go_wp2_with (at_builtin; refine Lib.wpList_append_run _ rfl (.tmp 20) (.tmp 21) 22 3 rfl _ _ rfl rfl _ _ hrun.out ?_)
  go_ret
  refine ⟨_, rfl, Lib.hid ?_, ?_⟩
  · have h9 := World.ownsRow_made (base := w.heap.size) (e := 5) (size := 1) w (Builtin.zeroCells #[.int .u8 0] n ++ Builtin.zeroCells #[.int .u8 0] (grownCap w n 0 5 - n)) (grownCap w n 0 5) (Nat.le_refl _) (grownCap_le_maxLen w n 0 _ (by simp only [maxLen]; omega)) (by
      have := grownCap_ge w n 0 5
      rw [Array.size_append, size_zeroCells, size_zeroCells]
      simp only [List.size_toArray, List.length_cons, List.length_nil]
      omega)
    exact h9
  · exact (Below.refl w.heap.size w).trans (((Below.refl _ w).alloc (Nat.le_refl _) _).trans (Below.refl _ _).drew)
/-- the first so many of four bytes, and zeros -/
def le4 (x : BitVec 32) (k : Nat) : List UInt8 := (bytes4 x).take k ++ List.replicate (4 - k) 0
set_option maxHeartbeats 4000000 in
set_option maxRecDepth 10000 in
theorem little_any (x : BitVec 32) (w : World) :
    Calls Try.prog 79 #[.int .u32 (W x)] w fun e w' => ∃ v, e = .returned v ∧ OB w' w.heap.size v (bytes4 x) ∧ Gr w w' := by
  obtain ⟨N, hN⟩ : ∃ N, w.heap.size = N := ⟨_, rfl⟩
  rw [hN]
  have hNle : N ≤ w.heap.size := by omega
  replace hN := Lib.hid hN
  go_enter Try.func79, Try.ntmps79
  go_wp2_with (refine wpl_make rfl (.const (.int .i64 4)) (.const (.int .i64 4)) rfl N 4 rfl rfl (by decide) hNle ?_; intro w1 ho hb; rw [hN.out] at ho ⊢; replace ho : Hid (OB w1 N (.slice (some ⟨N, 0, none⟩) 4 4) (le4 x 0)) := Lib.hid ho; replace hb := Lib.hid hb)
  go_loopw [8] (fun i wr => ∃ k : Nat, i = .int .i64 k ∧ k ≤ 4 ∧ Hid (OB wr N (.slice (some ⟨N, 0, none⟩) 4 4) (le4 x k)) ∧ Hid (Gr w wr)) (fun i _ => 4 - (intOf i).toNat)
  case atStart => exact ⟨0, rfl, by omega, ho, hb⟩
  case round =>
    clear ho hb
    obtain ⟨k, rfl, hk, ho, hb⟩ := hrel
    by_cases hlt : k < 4
    · have hkl : k < (le4 x k).length := by unfold le4; rw [List.length_append, List.length_take, List.length_replicate]; have : (bytes4 x).length = 4 := rfl; omega
      obtain ⟨g, e, hg1, hg2, hcell, hfr, hset⟩ := OB.store ho.out hkl
      injection e with e
      injection e with e _
      subst e
      have hb2 : ∀ u, Hid (Gr w (wr.setCell ⟨N, k, none⟩ u)) := fun u => Lib.hid (by have h := hb.out; unfold Gr at *; rw [hN.out] at *; exact h.setCell (p := ⟨N, k, none⟩) (Nat.le_refl _) _)
      have hstep : ∀ y, lo8 (x >>> (8 * k)) = y → Hid (OB (wr.setCell ⟨N, k, none⟩ (.int .u8 (U y))) N (.slice (some ⟨N, 0, none⟩) 4 4) (le4 x (k + 1))) := fun y hy => Lib.hid (by
        have h := hset y
        have e : (le4 x k).set k y = le4 x (k + 1) := by
          rw [← hy]
          match k, hlt with
          | 0, _ => rfl
          | 1, _ => rfl
          | 2, _ => rfl
          | 3, _ => rfl
        rw [e] at h
        exact h)
      replace hset := Lib.hid hset
      replace hstep := Lib.hid hstep
      replace hb2 := Lib.hid hb2
      obtain rfl | rfl | rfl | rfl : k = 0 ∨ k = 1 ∨ k = 2 ∨ k = 3 := by omega
      all_goals
        go_wp2_with fail
        go_roundw
        case rel => exact ⟨_, by go_num, by omega, hstep.out _ rfl, hb2.out _⟩
        case measure => simp [intOf]
    · obtain rfl : k = 4 := by omega
      go_wp2_with fail
      go_ret
      exact ⟨_, rfl, ho.out, hb.out⟩
/-- a slice of slices of bytes that read as L -/
def PartsV (L : List (List UInt8)) (v : Value) (w : World) : Prop := ∃ b c, v = .slice (some ⟨b, 0, none⟩) L.length c ∧ b < w.heap.size ∧ L.length ≤ c ∧ L.length ≤ 8 ∧ ∀ i l, L[i]? = some l → ∃ u, w.cell? ⟨b, i, none⟩ = some u ∧ Byt l u w
theorem PartsV.gr {L : List (List UInt8)} {v : Value} {w w' : World} (hr : Gr w w') (h : Hid (PartsV L v w)) : Hid (PartsV L v w') := Lib.hid (by
  obtain ⟨b, c, e, h1, h2, h3, h4⟩ := h.out
  refine ⟨b, c, e, Nat.lt_of_lt_of_le h1 (Below.size hr), h2, h3, fun i l hl => ?_⟩
  obtain ⟨u, hu, hy⟩ := h4 i l hl
  exact ⟨u, (cellGr hr (a := ⟨b, i, none⟩) h1).trans hu, (Byt.gr hr (Lib.hid hy)).out⟩)
set_option maxHeartbeats 8000000 in
set_option maxRecDepth 20000 in
theorem concatL_any (L : List (List UInt8)) (v : Value) (h1 : 1 ≤ L.flatten.length) (hn : L.flatten.length ≤ 1000000) (w : World) (h : PartsV L v w) :
    Calls Try.prog 81 #[v] w fun e w' => ∃ u, e = .returned u ∧ OB w' w.heap.size u L.flatten ∧ Gr w w' := by
  have hP := Lib.hid h
  obtain ⟨b, c, rfl, hb, hc1, hc2, hcell⟩ := h
  obtain ⟨n, hnn⟩ : ∃ n, L.length = n := ⟨_, rfl⟩
  rw [hnn] at hP hc2 ⊢
  obtain ⟨fl, hfl⟩ : ∃ fl : Nat → List UInt8, fl = fun k => (L.take k).flatten := ⟨_, rfl⟩
  have hf0 : fl 0 = [] := by rw [hfl]; rfl
  have hfn : fl n = L.flatten := by rw [hfl, ← hnn]; simp
  have hfs : ∀ k l, L[k]? = some l → fl (k + 1) = fl k ++ l := fun k l hl => by
    rw [hfl]
    simp only
    rw [List.take_add_one, hl, List.flatten_append]
    simp
  have hfb : ∀ k, (fl k).length ≤ 1000000 := fun k => by
    have e : L.flatten = fl k ++ (L.drop k).flatten := by rw [hfl]; simp only; rw [← List.flatten_append, List.take_append_drop]
    rw [e, List.length_append] at hn
    omega
  rw [← hfn]
  rw [← hfn] at h1
  clear hn hc1
  have hx : Hid (∀ k, k < n → ∃ l, L[k]? = some l) := Lib.hid (fun k hk => ⟨_, List.getElem?_eq_getElem (by rw [hnn]; exact hk)⟩)
  replace hfl := Lib.hid hfl
  replace hf0 := Lib.hid hf0
  replace hfn := Lib.hid hfn
  replace hfs := Lib.hid hfs
  replace hfb := Lib.hid hfb
  replace hnn := Lib.hid hnn
  replace hcell := Lib.hid hcell
  go_enter Try.func81, Try.ntmps81
  go_wp2_with fail
  go_loopw [3, 11] (fun sz i wr => ∃ (k t : Nat), k ≤ n ∧ i = .int .i64 k ∧ sz = .int .i64 t ∧ Hid ((fl k).length = t) ∧ w = wr) (fun _ i _ => n - (intOf i).toNat)
  case atStart => exact ⟨0, 0, Nat.zero_le _, rfl, rfl, Lib.hid (by rw [hf0.out]; rfl), rfl⟩
  case round =>
    obtain ⟨k, t, hk, rfl, rfl, ht, rfl⟩ := hrel
    have htb : t ≤ 1000000 := by rw [← ht.out]; exact hfb.out k
    by_cases hlt : k < n
    · have ik : (k : Int) < (n : Int) := by omega
      obtain ⟨l, hl⟩ := hx.out k hlt
      obtain ⟨u, hu, A', c', e', hr1, hr2, hr3⟩ := hcell.out k l hl
      subst e'
      obtain ⟨m, hm⟩ : ∃ m, l.length = m := ⟨_, rfl⟩
      rw [hm] at hu
      have ht2 : Hid ((fl (k + 1)).length = t + m) := Lib.hid (by rw [hfs.out k l hl, List.length_append, ht.out, hm])
      have hmb : t + m ≤ 1000000 := by rw [← ht2.out]; exact hfb.out (k + 1)
      have d1 : decide ((t : Int) + (m : Int) < 0) = false := decide_eq_false (by omega)
      clear hr1 hr2 hr3 hl
      replace hm := Lib.hid hm
      go_wp2_with fail
      go_roundw
      case rel => first | exact ⟨k + 1, t + m, by omega, by go_num, by go_num, ht2, by first | rfl | trivial⟩ | ((repeat apply Exists.intro); exact ⟨⟨k + 1, t + m, by omega, by go_num, by go_num, ht2, by first | rfl | trivial⟩, rfl⟩)
      case measure => simp [intOf]; omega
    · obtain rfl : k = n := by omega
      have ik : decide ((k : Int) < (k : Int)) = false := decide_eq_false (by omega)
      have hg := Lib.hid (grow_any t (by rw [← ht.out]; exact h1) htb w)
      go_wp2_with fail
      refine hg.out.mono ?_
      rintro e w1 ⟨v1, rfl, ho1, hb1⟩
      have hP1 := PartsV.gr (show Gr w w1 from hb1) hP
      have hq1 : Hid (Gr w w1) := Lib.hid hb1
      obtain ⟨A1, c1, rfl, -, -, -⟩ := ho1.out.form
      have hoo : Hid (OB w1 w.heap.size (.slice A1 0 c1) (fl 0)) := Lib.hid (by rw [hf0.out]; exact ho1.out)
      rw [List.length_nil]
      clear hg hb1 ho1
      go_wp2_with fail
      go_loopw [6, 27] (fun s i wr => ∃ (j t : Nat) (A2 : Option Addr) (c2 : Nat), j ≤ k ∧ i = .int .i64 j ∧ s = .slice A2 t c2 ∧ Hid (OB wr w.heap.size (.slice A2 t c2) (fl j)) ∧ Hid (Gr w wr)) (fun _ i _ => k - (intOf i).toNat)
      case atStart => exact ⟨0, 0, _, _, Nat.zero_le _, rfl, rfl, hoo, hq1⟩
      case round =>
        obtain ⟨j, t2, A2, c2, hj, rfl, rfl, ho2, hq2⟩ := hrel
        clear hoo hq1 hP1
        obtain ⟨wo, hwo⟩ : ∃ wo, wo = wr := ⟨_, rfl⟩
        subst hwo
        by_cases hlt : j < k
        · have ij : (j : Int) < (k : Int) := by omega
          obtain ⟨l, hl⟩ := hx.out j hlt
          obtain ⟨b', c', e', hb', -, -, hcell'⟩ := (PartsV.gr hq2.out hP).out
          injection e' with e1 e2 e3
          injection e1 with e1
          injection e1 with e1 _
          subst e1
          obtain ⟨u, hu, hy⟩ := hcell' j l hl
          have hyy := hy
          obtain ⟨A', c9, e', -, -, hr3⟩ := hyy
          subst e'
          obtain ⟨m, hm⟩ : ∃ m, l.length = m := ⟨_, rfl⟩
          rw [hm] at hu hy
          have hst : Hid (fl (j + 1) = fl j ++ l) := Lib.hid (hfs.out j l hl)
          have hbd : Hid ((fl j).length + l.length ≤ 140737488355328) := Lib.hid (by
            have := hfb.out (j + 1)
            rw [hst.out, List.length_append] at this
            omega)
          replace hm := Lib.hid hm
          replace hr3 := Lib.hid hr3
          clear hcell' hl e2 e3 hy
          have hws := hq2.out.size
          go_wp2_with (at_builtin; go_must (refine wpl_append rfl (.tmp 31) (.tmp 32) rfl w.heap.size (.slice A2 t2 c2) (fl j) rfl ho2.out _ A' c9 l (by rw [hm.out]; rfl) hr3.out hbd.out hws ?_); intro v8 w8 ho8 hg8 _; rw [← hst.out] at ho8; have hq8 : Hid (Gr w w8) := Lib.hid (below_app ho2.out hq2.out hws hg8); replace ho8 := Lib.hid ho8; obtain ⟨A8, m8, c8, rfl⟩ := ho8.out.shape; clear hg8)
          go_roundw
          case rel => exact ⟨j + 1, m8, A8, c8, by omega, by go_num, rfl, ho8, hq8⟩
          case measure => simp [intOf]; omega
        · obtain rfl : j = k := by omega
          have ij : decide ((j : Int) < (j : Int)) = false := decide_eq_false (by omega)
          go_wp2_with fail
          go_ret
          exact ⟨_, rfl, ho2.out, hq2.out⟩
def frameB (l : List UInt8) : List UInt8 := bytes4 (BitVec.ofNat 32 l.length) ++ (bytes4 (crc (bytes4 (BitVec.ofNat 32 l.length) ++ l)) ++ l)
theorem frameB_len (l : List UInt8) : (frameB l).length = 8 + l.length := by
  unfold frameB
  simp only [List.length_append]
  have h : ∀ x, (bytes4 x).length = 4 := fun _ => rfl
  rw [h, h]
  omega
set_option maxHeartbeats 4000000 in
set_option maxRecDepth 10000 in
theorem frame_any (l : List UInt8) (v : Value) (hl : l.length ≤ 100000) (w : World) (h : Byt l v w) :
    Calls Try.prog 64 #[v] w fun e w' => ∃ u, e = .returned u ∧ OB w' w.heap.size u (frameB l) ∧ Gr w w' := by
  have hB := Lib.hid h
  obtain ⟨A, c, rfl, -, -, -⟩ := h
  obtain ⟨n, hn⟩ : ∃ n, l.length = n := ⟨_, rfl⟩
  unfold frameB
  rw [hn] at hB hl ⊢
  have hw := u32_wrapNat n
  have hb4 : ∀ x, (bytes4 x).length = 4 := fun _ => rfl
  replace hn := Lib.hid hn
  obtain ⟨b0, hb0⟩ : ∃ b0, bytes4 (BitVec.ofNat 32 n) = b0 := ⟨_, rfl⟩
  have hl0 : b0.length = 4 := by rw [← hb0]; rfl
  have hle := little_any (BitVec.ofNat 32 n) w
  rw [hb0] at hle ⊢
  replace hle := Lib.hid hle
  replace hb0 := Lib.hid hb0
  go_enter Try.func64, Try.ntmps64
  go_wp2_with fail
  refine hle.out.mono ?_
  rintro e w1 ⟨v1, rfl, ho1, hg1⟩
  replace hB := Byt.gr hg1 hB
  obtain ⟨A1, c1, rfl, -⟩ := ho1.form
  replace ho1 := Lib.hid ho1
  replace hg1 := Lib.hid hg1
  rw [hl0] at ho1 ⊢
  clear hle hw
  have hga := Gr.alloc w1 (.cells #[.slice A1 4 c1, .slice A n c] 22)
  have hPa : Hid (PartsV [b0, l] (.slice (some ⟨w1.heap.size, 0, none⟩) 2 2) (w1.alloc (.cells #[.slice A1 4 c1, .slice A n c] 22))) := Lib.hid ⟨_, _, rfl, by simp, by simp, by simp, fun i y hy => by
    match i, hy with
    | 0, hy =>
      simp only [List.getElem?_cons_zero, Option.some.injEq] at hy
      subst hy
      exact ⟨_, cell_new w1 _ _ rfl, (Byt.gr hga (Lib.hid (by have := Byt.ob ho1.out; exact this))).out⟩
    | 1, hy =>
      simp only [List.getElem?_cons_succ, List.getElem?_cons_zero, Option.some.injEq] at hy
      subst hy
      exact ⟨_, cell_new w1 _ _ rfl, (Byt.gr hga hB).out⟩
    | k + 2, hy => simp at hy⟩
  have hcc := concatL_any [b0, l] _ (by simp; omega) (by simp [hl0, hn.out]; omega) _ hPa.out
  simp only [List.flatten_cons, List.flatten_nil, List.append_nil] at hcc
  replace hcc := Lib.hid hcc
  go_wp2_with fail
  refine hcc.out.mono ?_
  rintro e w2 ⟨v2, rfl, ho2, hg2⟩
  have hg2' : Hid (Gr w1 w2) := Lib.hid (hga.trans hg2)
  obtain ⟨A2, c2, rfl, -, -, hr2, -⟩ := ho2.form
  obtain ⟨m2, hm2⟩ : ∃ m2, (b0 ++ l).length = m2 := ⟨_, rfl⟩
  rw [hm2]
  have hm2b : m2 ≤ 200000 := by rw [← hm2, List.length_append, hn.out]; omega
  have hsm := Lib.hid (sum_at A2 m2 c2 (b0 ++ l) hm2 w2 hr2 (by omega))
  replace hg2 := Lib.hid hg2
  clear hga hcc hPa hr2 ho2 hg2
  go_wp2_with fail
  refine hsm.out.mono ?_
  rintro e w3 ⟨rfl, rfl⟩
  clear hsm
  replace hB := Byt.gr hg2'.out hB
  replace ho1 := OB.gr hg2'.out ho1
  have hg3 := Lib.hid (hg1.out.trans hg2'.out)
  obtain ⟨b1, hb1⟩ : ∃ b1, bytes4 (crc (b0 ++ l)) = b1 := ⟨_, rfl⟩
  have hl1 : b1.length = 4 := by rw [← hb1]; rfl
  have hle := little_any (crc (b0 ++ l)) w2
  rw [hb1] at hle
  replace hle := Lib.hid hle
  replace hb1 := Lib.hid hb1
  clear hm2b hm2
  go_wp2_with fail
  refine hle.out.mono ?_
  rintro e w4 ⟨v4, rfl, ho4, hg4⟩
  replace hB := Byt.gr hg4 hB
  replace ho1 := OB.gr hg4 ho1
  replace hg3 := Lib.hid (hg3.out.trans hg4)
  obtain ⟨A4, c4, rfl, -⟩ := ho4.form
  replace ho4 := Lib.hid ho4
  rw [hl1] at ho4 ⊢
  clear hle hg4 hg1 hg2'
  have hga := Gr.alloc w4 (.cells #[.slice A1 4 c1, .slice A4 4 c4, .slice A n c] 22)
  have hPa : Hid (PartsV [b0, b1, l] (.slice (some ⟨w4.heap.size, 0, none⟩) 3 3) (w4.alloc (.cells #[.slice A1 4 c1, .slice A4 4 c4, .slice A n c] 22))) := Lib.hid ⟨_, _, rfl, by simp, by simp, by simp, fun i y hy => by
    match i, hy with
    | 0, hy =>
      simp only [List.getElem?_cons_zero, Option.some.injEq] at hy
      subst hy
      exact ⟨_, cell_new w4 _ _ rfl, (Byt.gr hga (Lib.hid (by have := Byt.ob ho1.out; exact this))).out⟩
    | 1, hy =>
      simp only [List.getElem?_cons_succ, List.getElem?_cons_zero, Option.some.injEq] at hy
      subst hy
      exact ⟨_, cell_new w4 _ _ rfl, (Byt.gr hga (Lib.hid (by have := Byt.ob ho4.out; exact this))).out⟩
    | 2, hy =>
      simp only [List.getElem?_cons_succ, List.getElem?_cons_zero, Option.some.injEq] at hy
      subst hy
      exact ⟨_, cell_new w4 _ _ rfl, (Byt.gr hga hB).out⟩
    | k + 3, hy => simp at hy⟩
  have hcc := concatL_any [b0, b1, l] _ (by simp; omega) (by simp [hl0, hl1, hn.out]; omega) _ hPa.out
  simp only [List.flatten_cons, List.flatten_nil, List.append_nil] at hcc
  replace hcc := Lib.hid hcc
  go_wp2_with fail
  refine hcc.out.mono ?_
  rintro e w5 ⟨v5, rfl, ho5, hg5⟩
  have hsz3 := hg3.out.size
  have hfin : Hid (OB w5 w.heap.size v5 (b0 ++ (b1 ++ l))) := Lib.hid (ho5.more (by have := hga.size; omega))
  have hgf : Hid (Gr w w5) := Lib.hid (hg3.out.trans (hga.trans hg5))
  clear hga hg5 ho5 hPa hcc
  obtain ⟨A5, m5, c5, rfl⟩ := hfin.out.shape
  go_wp2_with fail
  go_ret
  exact ⟨_, rfl, by have h := hfin.out; rw [← hb1.out] at h; exact h, hgf.out⟩
end Go.Proofs.Ytgdbbjijneidaaa
