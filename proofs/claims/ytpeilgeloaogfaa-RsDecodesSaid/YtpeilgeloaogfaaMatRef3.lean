/- The reference of mat: Times of what does not fit, One, Copy, Code. -/
import Derived.Test.YtpeilgeloaogfaaMatRef2
namespace Go.Proofs.Ytpeilgeloaogfaa
set_option linter.unusedVariables false
set_option linter.unusedSimpArgs false
open Go Go.RowKit
theorem AT.put {w : World} {base g n c : Nat} {L : List (List UInt8)} (h : AT w base (.slice (some ⟨g, 0, none⟩) n c) L) (hn : L.length = n) {i : Nat} (hi : i < n) {A : Option Addr} {c' : Nat} {l : List UInt8} (hr : RowOk w base A c' l) :
    AT (w.setCell ⟨g, i, none⟩ (.slice A l.length c')) base (.slice (some ⟨g, 0, none⟩) n c) (L.set i l) := by
  obtain ⟨rows, h1, h2, h3⟩ := h
  obtain ⟨g', c'', e, q1, q2, q3, q4, -, q6, q7, q8⟩ := row_at h1 (by omega)
  injection e with e1 e2 e3
  injection e1 with e1
  injection e1 with e1
  subst e1
  have hne : ∀ (A2 : Option Addr) (c2 : Nat) (l2 : List UInt8), RowOk w base A2 c2 l2 → RowOk (w.setCell ⟨g, i, none⟩ (.slice A l.length c')) base A2 c2 l2 := fun A2 c2 l2 hh => by
    rcases hh with hh | ⟨hh, r1, r2⟩
    · refine .inl (row_keep hh (fun k hk => ?_))
      have hne := row_ne2 h1 hh (by decide) k hk
      exact blk_other (fun e => hne (by rw [e]; rfl)) i _
    · exact .inr ⟨Reads.setCell (p := ⟨g, i, none⟩) hh q3 _, r1, r2⟩
  refine ⟨rows.set i (.slice A l.length c'), by rw [List.length_set]; exact q8 i _, by simp [h2], fun j l' hl => ?_⟩
  rw [List.getElem?_set] at hl
  by_cases e : i = j
  · subst e
    rw [if_pos rfl, if_pos (by omega)] at hl
    injection hl with hl
    subst hl
    exact ⟨A, c', by rw [List.getElem?_set_self (by omega)], hne _ _ _ hr⟩
  · rw [if_neg e] at hl
    obtain ⟨A2, c2, h4, h5⟩ := h3 j l' hl
    exact ⟨A2, c2, by rw [List.getElem?_set_ne e]; exact h4, hne _ _ _ h5⟩
theorem AT.row {w : World} {base n c : Nat} {A : Option Addr} {L : List (List UInt8)} (h : AT w base (.slice A n c) L) {i : Nat} {l : List UInt8} (hl : L[i]? = some l) :
    ∃ g A' c', A = some ⟨g, 0, none⟩ ∧ base ≤ g ∧ g < w.heap.size ∧ w.cell? ⟨g, i, none⟩ = some (.slice A' l.length c') ∧ w.frozen? ⟨g, i, none⟩ = false ∧ RowOk w base A' c' l := by
  obtain ⟨rows, h1, h2, h3⟩ := h
  have hi := (List.getElem?_eq_some_iff.mp hl).1
  obtain ⟨g', c'', e, q1, q2, q3, q4, -, q6, q7, q8⟩ := row_at h1 (by omega)
  injection e with e1 e2 e3
  obtain ⟨A2, c2, h4, h5⟩ := h3 i l hl
  exact ⟨g', A2, c2, e1, q3, q4, q7 i _ h4, q6 i, h5⟩
theorem tabM_set {n m i : Nat} (hi : i < n) (M : Mx) (f : Nat → UInt8) : (tabM n m M).set i (row m f) = tabM n m (fun r => if r = i then f else M r) := by
  refine List.ext_getElem? fun j => ?_
  rw [List.getElem?_set, tabM_length]
  by_cases hj : j < n
  · rw [tabM_get hj, tabM_get hj]
    by_cases e : i = j
    · subst e; rw [if_pos rfl, if_pos hi]; simp
    · rw [if_neg e]; simp [show ¬ j = i from fun h => e h.symm]
  · rw [List.getElem?_eq_none (by rw [tabM_length]; omega), List.getElem?_eq_none (by rw [tabM_length]; omega), if_neg (by omega)]
theorem AT.width {w : World} {base n c : Nat} {A : Option Addr} {L : List (List UInt8)} (h : AT w base (.slice A n c) L) : L.length = n := by
  obtain ⟨rows, h1, -, -⟩ := h
  rcases h1.2 with ⟨e, h0⟩ | ⟨g, cap, cur, e, -⟩
  · injection e with _ e _; omega
  · injection e with _ e _; omega
theorem AT.newSet {w0 w : World} {base g j : Nat} {v : Value} {L : List (List UInt8)} {u : Value} (h : AT w0 base v L) (hs : base ≤ w0.heap.size) (hb : Below w0.heap.size w0 w) (hg : w0.heap.size ≤ g) : AT (w.setCell ⟨g, j, none⟩ u) base v L :=
  h.below (hb.setCell (p := ⟨g, j, none⟩) hg u) hs
theorem row_one (n k : Nat) (hk : k < n) : (List.replicate n (0 : UInt8)).set k 1 = row n (idM k) := by
  rw [← row_zero, row_set]
  exact row_congr (fun j _ => by
    unfold idM
    by_cases e : j = k
    · rw [if_pos e, if_pos e.symm]
    · rw [if_neg e, if_neg (fun h => e h.symm)])
set_option maxHeartbeats 8000000 in
set_option maxRecDepth 20000 in
theorem rone_any (n : Nat) (h32 : n ≤ 32) (w : World) :
    Calls Try.prog 36 #[.int .i64 n] w fun e w' => ∃ A' c', e = .returned (.slice A' n c') ∧ n ≤ c' ∧ c' ≤ maxLen ∧ RT w' w'.heap.size A' n (tabM n n idM) ∧ Below w.heap.size w w' := by
  have hat := Lib.hid (AT.empty w w.heap.size (Nat.le_refl _))
  have hq := Lib.hid ((Below.refl w.heap.size w).alloc (Nat.le_refl _) (.cells #[] 29))
  go_enter Try.func36, Try.ntmps36
  go_wp2_with fail
  obtain ⟨w3, hw3⟩ : ∃ w3, w.alloc (.cells #[] 29) = w3 := ⟨_, rfl⟩
  rw [hw3] at hat hq ⊢
  replace hw3 := Lib.hid hw3
  go_loopw [3, 4] (fun v i wr => ∃ (k : Nat) (A1 : Option Addr) (c1 : Nat), k ≤ n ∧ i = .int .i64 k ∧ v = .slice A1 k c1 ∧ Hid (AT wr w.heap.size (.slice A1 k c1) (tabM k n idM)) ∧ Hid (Below w.heap.size w wr)) (fun _ i _ => n - (intOf i).toNat)
  case atStart => exact ⟨0, _, _, Nat.zero_le _, rfl, rfl, hat, hq⟩
  case round =>
    obtain ⟨k, A1, c1, hk, rfl, rfl, hat1, hq1⟩ := hrel
    clear hat hq
    obtain ⟨wo, hwo⟩ : ∃ wo, wo = wr := ⟨_, rfl⟩
    subst hwo
    by_cases hlt : k < n
    · have hwsz : w.heap.size ≤ wo.heap.size := hq1.out.size
      have ik : (k : Int) < (n : Int) := by omega
      have hone := Lib.hid (row_one n k hlt)
      go_wp2_with (first | (at_builtin; go_must (refine wpl_append_row rfl (.tmp 17) (.tmp 19) rfl w.heap.size (.slice A1 k c1) (tabM k n idM) rfl hat3.out (some ⟨wo.heap.size, 0, none⟩) n (row n (idM k)) hrok2.out _ _ 1 rfl hrd9.out (by rw [tabM_length]; omega) hq9.out.size ?_); intro v8 w8 hat8 hg8; have hq8 := Lib.hid (hq9.out.grown hg8 hq9.out.size hat3.out.up); rw [tabM_snoc] at hat8; obtain ⟨A8, c8, rfl, -, -, -⟩ := hat8.form hq8.out.size; rw [tabM_length] at hat8 ⊢; replace hat8 := Lib.hid hat8; clear hg8) | (refine wpl_make rfl (.tmp 12) (.tmp 12) rfl wo.heap.size n rfl rfl (by omega) (Nat.le_refl _) ?_; intro w5 ho5 hb5; obtain ⟨g5, eg5, hg5, hg5', hc5, hf5, hst5⟩ := ho5.store (k := k) (by simp; exact hlt); injection eg5 with eg5; injection eg5 with eg5; subst eg5; have hrow : Hid (OB (w5.setCell ⟨wo.heap.size, k, none⟩ (.int .u8 1)) wo.heap.size (.slice (some ⟨wo.heap.size, 0, none⟩) n n) (row n (idM k))) := Lib.hid (by rw [← hone.out]; exact hst5 1); have hat5 := Lib.hid (hat1.out.newSet (j := k) (u := .int .u8 1) hwsz hb5 (Nat.le_refl wo.heap.size)); have hq5 := Lib.hid ((hq1.out.trans (hb5.mono hwsz)).setCell (p := ⟨wo.heap.size, k, none⟩) hwsz (.int .u8 1)); clear ho5 hst5 hb5; have hrok : RowOk (w5.setCell ⟨wo.heap.size, k, none⟩ (.int .u8 1)) w.heap.size (some ⟨wo.heap.size, 0, none⟩) n (row n (idM k)) := .inl (by rw [row_length]; exact hrow.out.more hwsz); have hbb : Below (w5.setCell ⟨wo.heap.size, k, none⟩ (.int .u8 1)).heap.size (w5.setCell ⟨wo.heap.size, k, none⟩ (.int .u8 1)) ((w5.setCell ⟨wo.heap.size, k, none⟩ (.int .u8 1)).alloc (.cells #[.slice (some ⟨wo.heap.size, 0, none⟩) n n] 29)) := (Below.refl _ _).alloc (Nat.le_refl _) _; have hat3 := Lib.hid (hat5.out.below hbb hq5.out.size); have hrok2 := Lib.hid (hrok.below hbb hq5.out.size); have hq9 := Lib.hid (hq5.out.trans (hbb.mono hq5.out.size)); have hrd9 : Hid (Reads ((w5.setCell ⟨wo.heap.size, k, none⟩ (.int .u8 1)).alloc (.cells #[.slice (some ⟨wo.heap.size, 0, none⟩) n n] 29)) ((w5.setCell ⟨wo.heap.size, k, none⟩ (.int .u8 1)).alloc (.cells #[.slice (some ⟨wo.heap.size, 0, none⟩) n n] 29)).heap.size 1 (some ⟨w5.heap.size, 0, none⟩) 1 [.slice (some ⟨wo.heap.size, 0, none⟩) (row n (idM k)).length n]) := Lib.hid (by rw [row_length]; have h0 := reads_one (w5.setCell ⟨wo.heap.size, k, none⟩ (.int .u8 1)) 29 (.slice (some ⟨wo.heap.size, 0, none⟩) n n); first | exact h0 | (rw [show w5.heap.size = (w5.setCell ⟨wo.heap.size, k, none⟩ (.int .u8 1)).heap.size from (by simp)]; exact h0)); clear hbb hrok; clear hrow hat5 hq5; replace hg5' := Lib.hid hg5'))
      go_roundw
      case rel => exact ⟨k + 1, A8, c8, by omega, by go_num, rfl, hat8, hq8⟩
      case measure => simp [intOf]; omega
    · obtain rfl : k = n := by omega
      obtain ⟨A8, c8, e8, h8, h9, h10⟩ := hat1.out.form hq1.out.size
      injection e8 with e81 e82 e83
      clear e82
      subst e81 e83
      rw [tabM_length] at h8 h10
      replace h10 := Lib.hid h10
      go_wp2_with fail
      go_ret
      exact ⟨A1, c1, rfl, h8, h9, h10.out, hq1.out⟩
set_option maxHeartbeats 8000000 in
set_option maxRecDepth 20000 in
theorem rtimes_no (A : Option Addr) (n c : Nat) (La : List (List UInt8)) (hc : n ≤ c) (hcm : c ≤ 9223372036854775807) (A2 : Option Addr) (n2 c2 : Nat) (Lb : List (List UInt8)) (hc2 : n2 ≤ c2) (hcm2 : c2 ≤ 9223372036854775807) (w : World) (h : RT w w.heap.size A n La) (h2 : RT w w.heap.size A2 n2 Lb) (hf : fits La Lb = false) :
    Calls Try.prog 30 #[.slice A n c, .slice A2 n2 c2] w fun e w' => e = .returned (.tuple #[.slice none 0 0, .bool false]) ∧ Below w.heap.size w w' := by
  unfold fits at hf
  have i1 := rtable_any A n c La hc (by omega) w h
  have i2 : Hid (∀ W, Below w.heap.size w W → Calls Try.prog 34 #[.slice A2 n2 c2] W fun e w' => e = .returned (.bool (isTab Lb)) ∧ Below W.heap.size W w') := Lib.hid (fun W hW => rtable_any A2 n2 c2 Lb hc2 (by omega) W (h2.up hW))
  have hq := Lib.hid (Below.refl w.heap.size w)
  cases hta : isTab La with
  | false =>
    rw [hta] at i1
    replace i1 := Lib.hid i1
    replace hta := Lib.hid hta
    replace hf := Lib.hid hf
    clear h h2
    go_enter Try.func30, Try.ntmps30
    go_wp2_with fail
    refine i1.out.mono ?_
    rintro e w' ⟨rfl, hbb⟩
    replace hq := Lib.hid (hq.out.trans (hbb.mono hq.out.size))
    go_wp2_with fail
    go_ret2
    exact ⟨rfl, hq.out⟩
  | true =>
    rw [hta] at i1 hf
    cases htb : isTab Lb with
    | false =>
      rw [htb] at i2
      replace i1 := Lib.hid i1
      replace hta := Lib.hid hta
      replace htb := Lib.hid htb
      replace hf := Lib.hid hf
      clear h h2
      go_enter Try.func30, Try.ntmps30
      go_wp2_with fail
      refine i1.out.mono ?_
      rintro e w' ⟨rfl, hbb⟩
      replace hq := Lib.hid (hq.out.trans (hbb.mono hq.out.size))
      clear hbb
      go_wp2_with fail
      refine (i2.out _ hq.out).mono ?_
      rintro e w' ⟨rfl, hbb⟩
      replace hq := Lib.hid (hq.out.trans (hbb.mono hq.out.size))
      go_wp2_with fail
      go_ret2
      exact ⟨rfl, hq.out⟩
    | true =>
      rw [htb] at i2 hf
      rw [Bool.true_and, Bool.true_and, beq_eq_false_iff_ne] at hf
      have hn := h.1
      have hn2 := h2.1
      have b1 := (isTab_iff.mp hta).1
      obtain ⟨ba, oa, A0, c0, la0, rfl, hba, hla0, hca0, -, -, -⟩ := h.at_ (i := 0) (by omega)
      have hla := tab_len hta hla0
      rw [Nat.add_zero, hla] at hca0
      obtain ⟨m, hm⟩ : ∃ m, width La = m := ⟨_, rfl⟩
      rw [hm] at hca0 hf
      rw [hn2] at hf
      have hne : ((m : Int) != (n2 : Int)) = true := by simp; omega
      have ia0 : (0 : Int) < (n : Int) := by omega
      replace i1 := Lib.hid i1
      replace hta := Lib.hid hta
      replace htb := Lib.hid htb
      replace hf := Lib.hid hf
      replace hm := Lib.hid hm
      replace hn := Lib.hid hn
      replace hn2 := Lib.hid hn2
      replace hla := Lib.hid hla
      replace hla0 := Lib.hid hla0
      replace hca0 := Lib.hid hca0
      clear h h2
      go_enter Try.func30, Try.ntmps30
      go_wp2_with fail
      refine i1.out.mono ?_
      rintro e w' ⟨rfl, hbb⟩
      replace hq := Lib.hid (hq.out.trans (hbb.mono hq.out.size))
      clear hbb
      go_wp2_with fail
      refine (i2.out _ hq.out).mono ?_
      rintro e w' ⟨rfl, hbb⟩
      replace hq := Lib.hid (hq.out.trans (hbb.mono hq.out.size))
      have x1 := (hq.out.cell (p := ⟨ba, oa, none⟩) hba).trans hca0.out
      go_wp2_with fail
      go_ret2
      exact ⟨rfl, hq.out⟩
theorem take_snoc' {L : List (List UInt8)} {k : Nat} {l : List UInt8} (h : L[k]? = some l) : L.take k ++ [l] = L.take (k + 1) := by
  rw [List.take_add_one, h]; rfl
theorem take_len {L : List (List UInt8)} {k n : Nat} (h : L.length = n) (hk : k ≤ n) : (L.take k).length = k := by rw [List.length_take]; omega
set_option maxHeartbeats 8000000 in
set_option maxRecDepth 20000 in
theorem rcopy_any (A : Option Addr) (n c : Nat) (L : List (List UInt8)) (hn : n ≤ 1000000) (hlen : ∀ (i : Nat) (l : List UInt8), L[i]? = some l → l.length ≤ 1000000) (w : World) (h : RT w w.heap.size A n L) :
    Calls Try.prog 85 #[.slice A n c] w fun e w' => ∃ A' c', e = .returned (.slice A' n c') ∧ n ≤ c' ∧ c' ≤ maxLen ∧ AT w' w.heap.size (.slice A' n c') L ∧ Below w.heap.size w w' := by
  have hat := Lib.hid (AT.empty w w.heap.size (Nat.le_refl _))
  have hq := Lib.hid ((Below.refl w.heap.size w).alloc (Nat.le_refl _) (.cells #[] 29))
  have hRa := Lib.hid h
  have hL := Lib.hid h.1
  replace hlen := Lib.hid hlen
  clear h
  go_enter Try.func85, Try.ntmps85
  go_wp2_with fail
  obtain ⟨w3, hw3⟩ : ∃ w3, w.alloc (.cells #[] 29) = w3 := ⟨_, rfl⟩
  rw [hw3] at hat hq ⊢
  replace hw3 := Lib.hid hw3
  go_loopw [3, 4] (fun v i wr => ∃ (k : Nat) (A1 : Option Addr) (c1 : Nat), k ≤ n ∧ i = .int .i64 k ∧ v = .slice A1 k c1 ∧ Hid (AT wr w.heap.size (.slice A1 k c1) (L.take k)) ∧ Hid (Below w.heap.size w wr)) (fun _ i _ => n - (intOf i).toNat)
  case atStart => exact ⟨0, _, _, Nat.zero_le _, rfl, rfl, hat, hq⟩
  case round =>
    obtain ⟨k, A1, c1, hk, rfl, rfl, hat1, hq1⟩ := hrel
    clear hat hq
    obtain ⟨wo, hwo⟩ : ∃ wo, wo = wr := ⟨_, rfl⟩
    subst hwo
    by_cases hlt : k < n
    · have hwsz : w.heap.size ≤ wo.heap.size := hq1.out.size
      obtain ⟨ba, oa, A3, c3, l, rfl, hba3, hla3, hca3, hlc3, hcm3, hrd3⟩ := hRa.out.at_ (i := k) hlt
      have hll := Lib.hid (hlen.out k l hla3)
      have hsn := Lib.hid (take_snoc' hla3)
      have htl := Lib.hid (take_len hL.out hk)
      replace hla3 := Lib.hid hla3
      have ho := Lib.hid (OB.empty wo wo.heap.size (Nat.le_refl _))
      have hb1 := (Below.refl wo.heap.size wo).alloc (Nat.le_refl _) (.cells #[] 5)
      have z1 := ((hq1.out.trans (hb1.mono hwsz)).cell (p := ⟨ba, oa + k, none⟩) hba3).trans hca3
      have hrd4 := Lib.hid ((hrd3.keep (fun p hp => (hq1.out.trans (hb1.mono hwsz)).cell hp)).more (B' := (wo.alloc (.cells #[] 5)).heap.size) (hq1.out.trans (hb1.mono hwsz)).size)
      replace hb1 := Lib.hid hb1
      replace hca3 := Lib.hid hca3
      replace hrd3 := Lib.hid hrd3
      obtain ⟨ln, hln⟩ : ∃ ln, l.length = ln := ⟨_, rfl⟩
      rw [hln] at z1 hlc3
      replace hln := Lib.hid hln
      have ik : (k : Int) < (n : Int) := by omega
      go_wp2_with (first | (at_builtin; (refine wpl_append rfl (.tmp 13) (.tmp 17) rfl wo.heap.size (.slice (some ⟨wo.heap.size, 0, none⟩) 0 0) [] rfl ho.out _ A3 c3 l (by rw [hln.out]; rfl) hrd4.out (by have := hll.out; simp; omega) hb1.out.size ?_); intro v5 w5 ho5 hg5 _; have hb5 := below_row ho.out hb1.out hb1.out.size hg5; rw [List.nil_append] at ho5; obtain ⟨A5, c5, rfl, -, -, -, -⟩ := ho5.form; rw [hln.out] at ho5 ⊢; have hrow := Lib.hid ho5; have hat5 := Lib.hid (hat1.out.below hb5 hwsz); have hq5 := Lib.hid (hq1.out.trans (hb5.mono hwsz)); clear ho5 hg5 hb5; have hrok : RowOk w5 w.heap.size A5 c5 (l) := .inl (by rw [hln.out]; exact hrow.out.more hwsz); have hbb : Below w5.heap.size w5 (w5.alloc (.cells #[.slice A5 ln c5] 29)) := (Below.refl _ _).alloc (Nat.le_refl _) _; have hat3 := Lib.hid (hat5.out.below hbb hq5.out.size); have hrok2 := Lib.hid (hrok.below hbb hq5.out.size); have hq9 := Lib.hid (hq5.out.trans (hbb.mono hq5.out.size)); have hrd9 : Hid (Reads (w5.alloc (.cells #[.slice A5 ln c5] 29)) (w5.alloc (.cells #[.slice A5 ln c5] 29)).heap.size 1 (some ⟨w5.heap.size, 0, none⟩) 1 [.slice A5 (l).length c5]) := Lib.hid (by rw [hln.out]; have h0 := reads_one w5 29 (.slice A5 ln c5); first | exact h0 | (rw [show w5.heap.size = w5.heap.size from (by simp)]; exact h0)); clear hbb hrok; clear hrow hat5 hq5) | (at_builtin; go_must (refine wpl_append_row rfl (.tmp 12) (.tmp 19) rfl w.heap.size (.slice A1 k c1) (L.take k) rfl hat3.out A5 c5 (l) hrok2.out _ _ 1 rfl hrd9.out (by rw [htl.out]; omega) hq9.out.size ?_); intro v8 w8 hat8 hg8; have hq8 := Lib.hid (hq9.out.grown hg8 hq9.out.size hat3.out.up); rw [hsn.out] at hat8; obtain ⟨A8, c8, rfl, -, -, -⟩ := hat8.form hq8.out.size; rw [take_len hL.out hlt] at hat8 ⊢; replace hat8 := Lib.hid hat8; clear hg8))
      go_roundw
      case rel => exact ⟨k + 1, A8, c8, by omega, by go_num, rfl, hat8, hq8⟩
      case measure => simp [intOf]; omega
    · obtain rfl : k = n := by omega
      have hfin : Hid (AT wo w.heap.size (.slice A1 k c1) L) := Lib.hid (by have := hat1.out; rwa [List.take_of_length_le (by rw [hL.out]; exact Nat.le_refl _)] at this)
      obtain ⟨A8, c8, e8, h8, h9, h10⟩ := hfin.out.form hq1.out.size
      injection e8 with e81 e82 e83
      clear e82
      subst e81 e83
      rw [hL.out] at h8
      clear h10
      go_wp2_with fail
      go_ret
      exact ⟨A1, c1, rfl, h8, h9, hfin.out, hq1.out⟩
end Go.Proofs.Ytpeilgeloaogfaa
