/- Walks of mat: codeElement, Code, identity. -/
import Derived.Test.YtpeilgeloaogfaaMatTimes
namespace Go.Proofs.Ytpeilgeloaogfaa
set_option linter.unusedVariables false
set_option linter.unusedSimpArgs false
open Go Go.RowKit
def codeE (k : Nat) : Mx := fun i j => if k ≤ i then ginv (fx i j) else if i = j then 1 else 0
theorem fx_eq {x y : Nat} (hx : x < 256) (hy : y < 256) : fx x y = UInt8.ofNat x ^^^ UInt8.ofNat y := by
  unfold fx
  apply UInt8.toNat_inj.mp
  have h := Nat.xor_lt_two_pow (n := 8) (x := x) (y := y) hx hy
  rw [UInt8.toNat_xor, UInt8.toNat_ofNat', UInt8.toNat_ofNat', UInt8.toNat_ofNat', Nat.mod_eq_of_lt hx, Nat.mod_eq_of_lt hy, Nat.mod_eq_of_lt h]
theorem ofNat_ne {x y : Nat} (hx : x < 256) (hy : y < 256) (h : x ≠ y) : UInt8.ofNat x ≠ UInt8.ofNat y := fun e => h (by
  have := congrArg UInt8.toNat e
  rw [UInt8.toNat_ofNat', UInt8.toNat_ofNat', Nat.mod_eq_of_lt hx, Nat.mod_eq_of_lt hy] at this
  exact this)
theorem fx_ne {x y : Nat} (hx : x < 256) (hy : y < 256) (h : x ≠ y) : fx x y ≠ 0 := by
  rw [fx_eq hx hy]
  exact xne (ofNat_ne hx hy h)
set_option maxHeartbeats 4000000 in
set_option maxRecDepth 10000 in
theorem codeElement_any (k i j : Nat) (hi : i < 256) (hj : j < k) (hk : k < 256) (w : World) :
    Calls Try.prog 86 #[.int .i64 k, .int .i64 i, .int .i64 j] w fun e w' => e = .returned (.int .u8 (U (codeE k i j))) ∧ w = w' := by
  by_cases h1 : k ≤ i
  · have hres : Hid (codeE k i j = gmul 1 (gpow (UInt8.ofNat (i ^^^ j)) 254)) := Lib.hid (by unfold codeE; rw [if_pos h1, gmul_one_l]; rfl)
    have hne : UInt8.ofNat (i ^^^ j) ≠ 0 := fx_ne hi (by omega) (by omega)
    have hx := xor_i64 i j (by omega) (by omega)
    obtain ⟨x, hxe⟩ : ∃ x, i ^^^ j = x := ⟨_, rfl⟩
    rw [hxe] at hx hne hres
    have d1 : decide ((k : Int) ≤ (i : Int)) = true := decide_eq_true (by omega)
    have hd := div_any 1 (UInt8.ofNat x) w
    rw [if_neg hne] at hd
    replace hd := Lib.hid hd
    replace hxe := Lib.hid hxe
    replace hne := Lib.hid hne
    go_enter Try.func86, Try.ntmps86
    go_wp2_with fail
    refine hd.out.mono ?_
    rintro e w' ⟨rfl, rfl⟩
    go_wp2_with fail
    go_ret
    exact ⟨by rw [hres.out]; rfl, rfl⟩
  · have d1 : decide ((k : Int) ≤ (i : Int)) = false := decide_eq_false (by omega)
    by_cases h2 : i = j
    · have hres : Hid (codeE k i j = 1) := Lib.hid (by unfold codeE; rw [if_neg h1, if_pos h2])
      have d2 : ((i : Int) == (j : Int)) = true := by simp; omega
      replace h2 := Lib.hid h2
      go_enter Try.func86, Try.ntmps86
      go_wp2
      go_ret
      exact ⟨by rw [hres.out]; rfl, rfl⟩
    · have hres : Hid (codeE k i j = 0) := Lib.hid (by unfold codeE; rw [if_neg h1, if_neg h2])
      have d2 : ((i : Int) == (j : Int)) = false := by simp; omega
      replace h2 := Lib.hid h2
      go_enter Try.func86, Try.ntmps86
      go_wp2
      go_ret
      exact ⟨by rw [hres.out]; rfl, rfl⟩
set_option maxHeartbeats 8000000 in
set_option maxRecDepth 20000 in
theorem code_ok (m n : Nat) (h1 : 1 ≤ m) (hmn : m ≤ n) (h32 : n ≤ 32) (w : World) :
    Calls Try.prog 37 #[.int .i64 m, .int .i64 n] w fun e w' => ∃ g G C, e = .returned (.slice (some ⟨g, 0, none⟩) n n) ∧ TB w' w.heap.size g n m G C (codeE m) ∧ Below w.heap.size w w' := by
  have d1 : decide ((m : Int) < 1) = false := decide_eq_false (by omega)
  have d2 : decide ((n : Int) < (m : Int)) = false := decide_eq_false (by omega)
  have d3 : decide ((32 : Int) < (n : Int)) = false := decide_eq_false (by omega)
  have hww : w = w := rfl
  obtain ⟨w', hw'⟩ : ∃ w', w = w' := ⟨_, rfl⟩
  rw [hw']
  clear hw' hww
  go_enter Try.func37, Try.ntmps37
  go_wp2_with (refine wpl_makeT rfl (.tmp 19) (.tmp 19) rfl n rfl rfl (by omega) ?_; intro w1 hsp1 hb1; replace hsp1 := Lib.hid hsp1; replace hb1 := Lib.hid hb1)
  obtain ⟨g, hg⟩ : ∃ g, w'.heap.size = g := ⟨_, rfl⟩
  have hsp : Hid (Sp w1 g n) := Lib.hid (by rw [← hg]; exact hsp1.out)
  rw [hg]
  replace hg := Lib.hid hg
  go_loopw [23] (fun i wr => ∃ (k : Nat) (G C : Nat → Nat), k ≤ n ∧ i = .int .i64 k ∧ Hid (TB wr w'.heap.size g k m G C (codeE m)) ∧ Hid (Sp wr g n) ∧ Hid (Below w'.heap.size w' wr)) (fun i _ => n - (intOf i).toNat)
  case atStart => exact ⟨0, fun _ => 0, fun _ => 0, Nat.zero_le _, rfl, Lib.hid (TB.empty _ hsp.out (Nat.le_of_eq hg.out) m h1 _ _ _), hsp, hb1⟩
  case round =>
    obtain ⟨k, G, C, hk, rfl, htb1, hsp2, hb2⟩ := hrel
    clear hsp hsp1 hb1
    by_cases hlt : k < n
    · obtain ⟨vs, hcs⟩ := hsp2.out.cell hlt
      have hfs := hsp2.out.free k
      have hszr : g < wr.heap.size := hsp2.out.lt
      have hbase := hb2.out.size
      have ho3 := trivial
      have hg32 : Hid (∀ W, Sp W g n → W.cell? ⟨g, k, none⟩ = some vs → True) := Lib.hid (fun _ _ _ => trivial)
      go_wp2_with (refine wpl_make rfl (.tmp 28) (.tmp 28) rfl w'.heap.size m rfl rfl (by omega) hbase ?_; intro w3 ho3 hb3; replace ho3 := Lib.hid ho3; have hcs3 := (hb3.cell (p := ⟨g, k, none⟩) hszr).trans hcs; have hfs3 := (hb3.frozen (p := ⟨g, k, none⟩) hszr).trans hfs; replace hb3 := Lib.hid hb3; have hcn : (w3.setCell ⟨g, k, none⟩ (.slice (some ⟨wr.heap.size, 0, none⟩) m m)).cell? ⟨g, k, none⟩ = some (.slice (some ⟨wr.heap.size, 0, none⟩) m m) := by obtain ⟨cs, q1, q2⟩ := hsp2.out.below hb3.out; exact blk_cell (blk_set q1 k _) (by simp [show k < cs.size by omega]))
      clear hcs hfs hcs3 hfs3 hcn hg32
      have htb3 := (htb1.out.below hb3.out).grow (hsp2.out.below hb3.out) hlt (G' := wr.heap.size) (C' := m) (f := fun _ => 0) (by rw [row_zero]; exact ho3.out) (fun i hi => Nat.ne_of_lt (htb1.out.glt hi).2)
      have hsp3 := (hsp2.out.below hb3.out).set k (.slice (some ⟨wr.heap.size, 0, none⟩) m m)
      have hb4 : Below w'.heap.size w' (w3.setCell ⟨g, k, none⟩ (.slice (some ⟨wr.heap.size, 0, none⟩) m m)) := (hb2.out.trans (hb3.out.mono hbase)).setCell (p := ⟨g, k, none⟩) htb1.out.low _
      obtain ⟨w4, hw4⟩ : ∃ w4, w3.setCell ⟨g, k, none⟩ (.slice (some ⟨wr.heap.size, 0, none⟩) m m) = w4 := ⟨_, rfl⟩
      rw [hw4] at htb3 hsp3 hb4 ⊢
      replace hw4 := Lib.hid hw4
      obtain ⟨G1, hG1⟩ : ∃ G1 : Nat → Nat, (fun i => if i = k then wr.heap.size else G i) = G1 := ⟨_, rfl⟩
      obtain ⟨C1, hC1⟩ : ∃ C1 : Nat → Nat, (fun i => if i = k then m else C i) = C1 := ⟨_, rfl⟩
      rw [hG1, hC1] at htb3
      replace hG1 := Lib.hid hG1
      replace hC1 := Lib.hid hC1
      have htb4 : Hid (TB w4 w'.heap.size g (k + 1) m G1 C1 (fun r => if r = k then (fun c => if c < 0 then codeE m k c else 0) else codeE m r)) := Lib.hid (htb3.congr (fun r c _ _ => by
        by_cases e : r = k
        · simp only [if_pos e, Nat.not_lt_zero, if_false]
        · simp only [if_neg e]))
      replace hsp3 := Lib.hid hsp3
      replace hb4 := Lib.hid hb4
      clear htb3 htb1 hsp2 hb2 hb3 ho3 hbase hszr
      go_loopw [36] (fun i wr => ∃ j : Nat, j ≤ m ∧ i = .int .i64 j ∧ Hid (TB wr w'.heap.size g (k + 1) m G1 C1 (fun r => if r = k then (fun c => if c < j then codeE m k c else 0) else codeE m r)) ∧ Hid (Sp wr g n) ∧ Hid (Below w'.heap.size w' wr)) (fun i _ => m - (intOf i).toNat)
      case atStart => exact ⟨0, Nat.zero_le _, rfl, htb4, hsp3, hb4⟩
      case round =>
        obtain ⟨j, hj, rfl, htb5, hsp5, hb5⟩ := hrel
        clear htb4 hsp3 hb4
        by_cases hlj : j < m
        · have hstep : Hid (EqM (k + 1) m (fun r => if r = k then (fun c => if c < j + 1 then codeE m k c else 0) else codeE m r) (fun r => if r = k then (fun c => if c = j then codeE m k j else if c < j then codeE m k c else 0) else (fun r => if r = k then (fun c => if c < j then codeE m k c else 0) else codeE m r) r)) := Lib.hid (fun r c hr hc => by
            by_cases e : r = k
            · simp only [if_pos e]
              by_cases e2 : c = j
              · subst e2; rw [if_pos (by omega), if_pos rfl]
              · rw [if_neg e2]
                by_cases e3 : c < j
                · rw [if_pos e3, if_pos (by omega)]
                · rw [if_neg e3, if_neg (by omega)]
            · simp only [if_neg e])
          have hj0 : (j : Int) < (m : Int) := by omega
          go_wp2_with fail
          obtain ⟨wd, hwd⟩ : ∃ wd, wd = wr.drew := ⟨_, rfl⟩
          have hbb : Below wr.heap.size wr wd := by rw [hwd]; exact (Below.refl _ _).drew
          have htbd := Lib.hid (htb5.out.below hbb)
          have hspd := Lib.hid (hsp5.out.below hbb)
          have hbd := Lib.hid (hb5.out.trans (hbb.mono hb5.out.size))
          have hck := htbd.out.cell (i := k) (by omega)
          have hg1 : g ≠ G1 k := fun e => htbd.out.gne (i := k) (by omega) e.symm
          have hok : OB wd w'.heap.size (.slice (some ⟨G1 k, 0, none⟩) m (C1 k)) (row m (fun c => if c < j then codeE m k c else 0)) := by
            have := htbd.out.own k (by omega)
            simp only [eq_self, if_true] at this
            exact this
          obtain ⟨g', eg, -, hgl, hc6, hf6, hst0⟩ := hok.store (k := j) (by rw [row_length]; exact hlj)
          injection eg with eg
          injection eg with eg
          subst eg
          have hst := hst0 (codeE m k j)
          rw [row_set] at hst
          clear hok hst0 htb5 hsp5 hb5 hbb
          refine wpR_region (Upd (fun _ => False)) 10 (by kernel_rfl) ?_
          (rw [← hwd]; replace hwd := Lib.hid hwd)
          refine wpR_take (i := 0) (v := ?_) (Upd.road _) (some 39) rfl (by kernel_rfl) (by kernel_rfl) (by kernel_rfl) (by kernel_rfl) (by kernel_rfl) (fun _ _ _ h => h) (by kernel_rfl) (fun w' hw' => ?_) ?_
          rotate_left
          · go_simp; with_reducible rfl
          simp only [Act.put, List.setIfInBounds_toArray, List.set_cons_zero, List.set_cons_succ]
          refine wpR_take (i := 1) (v := ?_) (Upd.road _) (some 40) rfl (by kernel_rfl) (by kernel_rfl) (by kernel_rfl) (by kernel_rfl) (by kernel_rfl) (fun _ _ _ h => h) (by kernel_rfl) (fun w' hw' => ?_) ?_
          rotate_left
          · go_simp; with_reducible rfl
          simp only [Act.put, List.setIfInBounds_toArray, List.set_cons_zero, List.set_cons_succ]
          refine wpR_take (i := 2) (v := ?_) (Upd.road _) (some 41) rfl (by kernel_rfl) (by kernel_rfl) (by kernel_rfl) (by kernel_rfl) (by kernel_rfl) (fun _ _ _ h => h) (by kernel_rfl) (fun w' hw' => ?_) ?_
          rotate_left
          · go_simp; with_reducible rfl
          simp only [Act.put, List.setIfInBounds_toArray, List.set_cons_zero, List.set_cons_succ]
          refine wpR_take (i := 3) (v := ?_) (Upd.road _) (some 42) rfl (by kernel_rfl) (by kernel_rfl) (by kernel_rfl) (by kernel_rfl) (by kernel_rfl) (fun _ _ _ h => h) (by kernel_rfl) (fun w' hw' => ?_) ?_
          rotate_left
          · have q := (hw'.cell (p := ⟨g, k, none⟩) hspd.out.lt (fun h => h)).trans hck; go_simp; with_reducible rfl
          simp only [Act.put, List.setIfInBounds_toArray, List.set_cons_zero, List.set_cons_succ]
          refine wpR_take (i := 4) (v := ?_) (Upd.road _) (some 43) rfl (by kernel_rfl) (by kernel_rfl) (by kernel_rfl) (by kernel_rfl) (by kernel_rfl) (fun _ _ _ h => h) (by kernel_rfl) (fun w' hw' => ?_) ?_
          rotate_left
          · go_simp; with_reducible rfl
          simp only [Act.put, List.setIfInBounds_toArray, List.set_cons_zero, List.set_cons_succ]
          refine wpR_take (i := 5) (v := ?_) (Upd.road _) (some 44) rfl (by kernel_rfl) (by kernel_rfl) (by kernel_rfl) (by kernel_rfl) (by kernel_rfl) (fun _ _ _ h => h) (by kernel_rfl) (fun w' hw' => ?_) ?_
          rotate_left
          · go_simp; with_reducible rfl
          simp only [Act.put, List.setIfInBounds_toArray, List.set_cons_zero, List.set_cons_succ]
          refine wpR_take (i := 6) (v := ?_) (Upd.road _) (some 45) rfl (by kernel_rfl) (by kernel_rfl) (by kernel_rfl) (by kernel_rfl) (by kernel_rfl) (fun _ _ _ h => h) (by kernel_rfl) (fun w' hw' => ?_) ?_
          rotate_left
          · go_simp; with_reducible rfl
          simp only [Act.put, List.setIfInBounds_toArray, List.set_cons_zero, List.set_cons_succ]
          refine wpR_take (i := 7) (v := ?_) (Upd.road _) (some 46) rfl (by kernel_rfl) (by kernel_rfl) (by kernel_rfl) (by kernel_rfl) (by kernel_rfl) (fun _ _ _ h => h) (by kernel_rfl) (fun w' hw' => ?_) ?_
          rotate_left
          · go_simp; with_reducible rfl
          simp only [Act.put, List.setIfInBounds_toArray, List.set_cons_zero, List.set_cons_succ]
          refine wpR_one 8 rfl (by kernel_rfl) (by kernel_rfl) (fun K hK => ?_)
          go_simp
          refine (codeElement_any m k j (by omega) hlj (by omega) _).mono ?_
          rintro e w5 ⟨rfl, rfl⟩
          refine hK _ _ (fun _ => Upd.refl _ _) ?_
          clear hK K
          try simp only [Act.put, List.setIfInBounds_toArray, List.set_cons_zero, List.set_cons_succ]
          refine wpR_take (i := 9) (v := ?_) (Upd.road _) (some 48) rfl (by kernel_rfl) (by kernel_rfl) (by kernel_rfl) (by kernel_rfl) (by kernel_rfl) (fun _ _ _ h => h) (by kernel_rfl) (fun w' hw' => ?_) ?_
          rotate_left
          · go_simp; with_reducible rfl
          simp only [Act.put, List.setIfInBounds_toArray, List.set_cons_zero, List.set_cons_succ]
          refine wpR_one 10 rfl (by kernel_rfl) (by kernel_rfl) (fun K hK => ?_)
          go_simp
          refine hK _ _ (fun h => absurd h (by decide)) ?_
          clear hK K
          have htb6 := htbd.out.put (i := k) (by omega) hst (Upd.of_grown (blk_grown wd (G1 k) j _) rfl)
          have hsp6 := hspd.out.keep (blk_other (w := wd) (g := G1 k) (k := g) hg1 j (.int .u8 (U (codeE m k j))))
          have hb6 := hbd.out.setCell (p := ⟨G1 k, j, none⟩) (htbd.out.glt (i := k) (by omega)).1 (.int .u8 (U (codeE m k j)))
          obtain ⟨w6, hw6⟩ : ∃ w6, wd.setCell ⟨G1 k, j, none⟩ (.int .u8 (U (codeE m k j))) = w6 := ⟨_, rfl⟩
          rw [hw6] at htb6 hsp6 hb6 ⊢
          replace hw6 := Lib.hid hw6
          replace htb6 := Lib.hid (htb6.congr hstep.out)
          replace hsp6 := Lib.hid hsp6
          replace hb6 := Lib.hid hb6
          clear hst hc6 hf6
          try simp only [Act.put, List.setIfInBounds_toArray, List.set_cons_zero, List.set_cons_succ]
          refine wpR_done (by kernel_rfl) ?_ _
          clear hck hgl htbd hspd hbd
          go_wp2_with fail
          go_roundw
          case rel => exact ⟨j + 1, by omega, by go_num, htb6, hsp6, hb6⟩
          case measure => simp [intOf]; omega
        · obtain rfl : j = m := by omega
          have htbe := Lib.hid (htb5.out.congr (M' := codeE j) (fun r c hr hc => by
            by_cases e : r = k
            · simp only [if_pos e, if_pos hc]; rw [e]
            · simp only [if_neg e]))
          clear htb5
          go_wp2_with fail
          go_roundw
          case rel => exact ⟨k + 1, G1, C1, by omega, by go_num, htbe, hsp5, hb5⟩
          case measure => simp [intOf]; omega
    · obtain rfl : k = n := by omega
      go_wp2_with fail
      go_ret
      exact ⟨g, G, C, rfl, htb1.out, hb2.out⟩
set_option maxHeartbeats 8000000 in
set_option maxRecDepth 20000 in
theorem code_no (m n : Int) (hm : -9223372036854775808 ≤ m ∧ m ≤ 9223372036854775807) (h : m < 1 ∨ n < m ∨ 32 < n) (w : World) :
    Calls Try.prog 37 #[.int .i64 m, .int .i64 n] w fun e w' => e = .returned (.slice none 0 0) ∧ w' = w := by
  by_cases h1 : m < 1
  · have d1 : decide (m < 1) = true := decide_eq_true h1
    go_enter Try.func37, Try.ntmps37
    go_wp2_with fail
    go_ret
    exact ⟨rfl, rfl⟩
  · have d1 : decide (m < 1) = false := decide_eq_false h1
    by_cases h2 : n < m
    · have d2 : decide (n < m) = true := decide_eq_true h2
      go_enter Try.func37, Try.ntmps37
      go_wp2_with fail
      go_ret
      exact ⟨rfl, rfl⟩
    · have d2 : decide (n < m) = false := decide_eq_false h2
      have d3 : decide (32 < n) = true := decide_eq_true (by omega)
      go_enter Try.func37, Try.ntmps37
      go_wp2_with fail
      go_ret
      exact ⟨rfl, rfl⟩
theorem codeE_id {n i j : Nat} (hi : i < n) : codeE n i j = idM i j := by unfold codeE idM; rw [if_neg (by omega)]
theorem identity_any (n : Nat) (h1 : 1 ≤ n) (h32 : n ≤ 32) (w : World) :
    Calls Try.prog 83 #[.int .i64 n] w fun e w' => ∃ g G C, e = .returned (.slice (some ⟨g, 0, none⟩) n n) ∧ TB w' w.heap.size g n n G C idM ∧ Below w.heap.size w w' := by
  go_enter Try.func83, Try.ntmps83
  go_wp2_with fail
  refine (code_ok n n h1 (Nat.le_refl _) h32 _).mono ?_
  rintro e w' ⟨g, G, C, rfl, htb, hb⟩
  replace htb := Lib.hid htb
  replace hb := Lib.hid hb
  go_wp2_with fail
  go_ret
  exact ⟨g, G, C, rfl, htb.out.congr (fun i j hi _ => (codeE_id hi).symm), hb.out⟩
end Go.Proofs.Ytpeilgeloaogfaa
