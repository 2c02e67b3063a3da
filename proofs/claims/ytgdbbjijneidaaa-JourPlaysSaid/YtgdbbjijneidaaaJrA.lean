/- Notes that may not be: Add and the reference's. -/
import Derived.Test.YtgdbbjijneidaaaJr29
import Derived.Test.YtgdbbjijneidaaaDskRefJ
import Derived.Test.YtgdbbjijneidaaaJr18
namespace Go.Proofs.Ytgdbbjijneidaaa
set_option linter.unusedVariables false
set_option linter.unusedSimpArgs false
open Go Go.RowKit
set_option maxHeartbeats 2000000 in
set_option maxRecDepth 10000 in
theorem add_bad (J : Nat) (n : Nt) (v : Value) (w : World) (hn : NtV n v w) (hgd : goodN n = false) :
    Calls Try.prog 39 #[.pointer (some ⟨J, 0, none⟩), v] w fun e w' => e = .returned (.int .i64 12) ∧ Gr w w' := by
  have hv := hn
  obtain ⟨A, c, A2, c2, rfl, -, -⟩ := hn
  have hb := Gr.alloc w (.cells (n.cells A c A2 c2) 25)
  have hen := Lib.hid (encode_no n _ _ (NtV.gr hb (Lib.hid hv)).out hgd)
  unfold Nt.cells at hen hb
  unfold Nt.agg at hen ⊢
  replace hb := Lib.hid hb
  clear hv
  go_enter Try.func39, Try.ntmps39
  go_wp2_with fail
  refine hen.out.mono ?_
  clear hen
  rintro e w2 ⟨rfl, hg2⟩
  replace hg2 := Lib.hid hg2
  go_wp2_with fail
  go_ret
  exact ⟨rfl, hb.out.trans hg2.out⟩
set_option maxHeartbeats 2000000 in
set_option maxRecDepth 10000 in
theorem rframe_no (n : Nt) (v : Value) (w : World) (hn : NtV n v w) (hgd : goodN n = false) :
    Calls Try.prog 57 #[v] w fun e w' => e = .returned (.tuple #[.slice none 0 0, .int .i64 12]) ∧ Gr w w' := by
  have hv := hn
  obtain ⟨A, c, A2, c2, rfl, -, -⟩ := hn
  have hb := Gr.alloc w (.cells (n.cells A c A2 c2) 25)
  have hen := Lib.hid (rencode_no n _ _ (NtV.gr hb (Lib.hid hv)).out hgd)
  unfold Nt.cells at hen hb
  unfold Nt.agg at hen ⊢
  replace hb := Lib.hid hb
  clear hv
  go_enter Try.func57, Try.ntmps57
  go_wp2_with fail
  refine hen.out.mono ?_
  clear hen
  rintro e w2 ⟨rfl, hg2⟩
  replace hg2 := Lib.hid hg2
  go_wp2_with fail
  go_ret2
  exact ⟨rfl, hb.out.trans hg2.out⟩
/-- the reference's journal in memory -/
def Rj (w : World) (J gr : Nat) (z : Int) : Prop := w.heap[J]? = some (.cells #[.pointer (some ⟨gr, 0, none⟩), .int .i64 z] 77 (0, 0))
set_option maxHeartbeats 2000000 in
set_option maxRecDepth 10000 in
theorem radd_bad (J gr : Nat) (z : Int) (n : Nt) (v : Value) (w : World) (hn : NtV n v w) (hgd : goodN n = false) :
    Calls Try.prog 40 #[.pointer (some ⟨J, 0, none⟩), v] w fun e w' => e = .returned (.int .i64 12) ∧ Gr w w' := by
  have hv := hn
  obtain ⟨A, c, A2, c2, rfl, -, -⟩ := hn
  have hb := Gr.alloc w (.cells (n.cells A c A2 c2) 25)
  have hen := Lib.hid (rframe_no n _ _ (NtV.gr hb (Lib.hid hv)).out hgd)
  unfold Nt.cells at hen hb
  unfold Nt.agg at hen ⊢
  replace hb := Lib.hid hb
  clear hv
  go_enter Try.func40, Try.ntmps40
  go_wp2_with fail
  refine hen.out.mono ?_
  clear hen
  rintro e w2 ⟨rfl, hg2⟩
  replace hg2 := Lib.hid hg2
  go_wp2_with fail
  go_ret
  exact ⟨rfl, hb.out.trans hg2.out⟩
end Go.Proofs.Ytgdbbjijneidaaa
/- The reference's Add; its disk's acts. -/
namespace Go.Proofs.Ytgdbbjijneidaaa
set_option linter.unusedVariables false
set_option linter.unusedSimpArgs false
open Go Go.RowKit
theorem DS.Ok.append {s : DS} (h : s.Ok) (b : List UInt8) : (s.append b).2.Ok := by
  unfold DS.append
  have ho := h.op
  have hc := s.op_c
  have hd := h.dur
  split
  · exact h
  · split
    · exact ⟨by show s.op.2.dur ≤ (s.c ++ b).length; rw [hc.2.1, List.length_append]; omega, by show (s.c ++ b).length ≤ 262144; rw [List.length_append]; omega, ho.lo, ho.hi⟩
    · exact h
theorem rapp_any (gr : Nat) (s : DS) (hok : s.Ok) (A : Option Addr) (n c : Nat) (b : List UInt8) (hn : b.length = n) (hnm : n ≤ 140737488355328) (w : World) (h : RkS w gr s) (hr : Rd w w.heap.size A b) (hne : ∀ ad, A = some ad → 0 < b.length → ¬ ad.block = gr) :
    Calls Try.prog 29 #[.pointer (some ⟨gr, 0, none⟩), .slice A n c] w fun e w' => e = .returned (.int .i64 (s.append b).1) ∧ RkS w' gr (s.append b).2 ∧ UpdG gr w w' := by
  have hl := (tl_len s hok).2.2
  refine (rappend_any gr _ _ _ (lf_bd s hok) (by have := hok.len; omega) A n c b hn hnm w h hr hne).mono ?_
  rintro e w' ⟨h1, h2, h3, hu⟩
  obtain ⟨a, b⟩ := append_rk s hok hn h1 h2 h3
  exact ⟨a, b, hu⟩
theorem rsyn_any (gr : Nat) (s : DS) (hok : s.Ok) (w : World) (h : RkS w gr s) :
    Calls Try.prog 66 #[.pointer (some ⟨gr, 0, none⟩)] w fun e w' => e = .returned (.int .i64 s.sync.1) ∧ RkS w' gr s.sync.2 ∧ UpdG gr w w' := by
  have hl := (tl_len s hok).2.2
  refine (rsync_any gr _ _ _ (lf_bd s hok) (by have := hok.len; omega) w h).mono ?_
  rintro e w' ⟨h1, h2, hu⟩
  obtain ⟨a, b⟩ := sync_rk s hok h1 h2
  exact ⟨a, b, hu⟩
theorem rswp_any (gr : Nat) (s : DS) (hok : s.Ok) (A : Option Addr) (n c : Nat) (b : List UInt8) (hn : b.length = n) (hnm : n ≤ 140737488355328) (w : World) (h : RkS w gr s) (hr : Rd w w.heap.size A b) (hne : ∀ ad, A = some ad → 0 < b.length → ¬ ad.block = gr) :
    Calls Try.prog 62 #[.pointer (some ⟨gr, 0, none⟩), .slice A n c] w fun e w' => e = .returned (.int .i64 (s.swap b).1) ∧ RkS w' gr (s.swap b).2 ∧ UpdG gr w w' := by
  refine (rswap_any gr _ _ _ (lf_bd s hok) A n c b hn hnm w h hr hne).mono ?_
  rintro e w' ⟨h1, h2, h3, hu⟩
  obtain ⟨a, b⟩ := swap_rk s hok hn h1 h2 h3
  exact ⟨a, b, hu⟩
theorem RkS.gr {w w' : World} {gr : Nat} {s : DS} (h : RkS w gr s) (hg : Gr w w') : RkS w' gr s := (Below.block hg gr (blk_lt h)).trans h
def SJ (gr J : Nat) (k : Nat) : Prop := k = gr ∨ k = J
theorem UpdG.sj {gr J : Nat} {w w' : World} (h : UpdG gr w w') : Upd (SJ gr J) w w' := ⟨h.1, h.2.1, h.2.2.1, h.2.2.2.1, fun k hk hn => h.2.2.2.2 k hk (fun e => hn (.inl e))⟩
theorem Rj.ne {w : World} {J gr : Nat} {z : Int} {s : DS} (hJ : Rj w J gr z) (h : RkS w gr s) : J ≠ gr := by
  rintro rfl
  have := hJ.symm.trans h
  injection this with hh
  injection hh with _ hT _
  revert hT
  decide
theorem Rj.updG {w w' : World} {J gr : Nat} {z : Int} (hJ : Rj w J gr z) (hne : J ≠ gr) (hu : UpdG gr w w') : Rj w' J gr z := (hu.2.2.2.2 J (blk_lt hJ) hne).trans hJ
theorem OB.ne_old {w : World} {base gr : Nat} {A : Option Addr} {n c : Nat} {l : List UInt8} (h : OB w base (.slice A n c) l) (hg : gr < base) : ∀ ad, A = some ad → 0 < l.length → ¬ ad.block = gr := fun ad e hl hb => by
  rcases h.2 with ⟨e', h0⟩ | ⟨k, cap, cur, e', h1, -⟩
  · injection e' with e' _ _
    rw [e] at e'
    cases e'
  · injection e' with e' _ _
    rw [e] at e'
    injection e' with e'
    subst e'
    simp only at hb
    omega
set_option maxHeartbeats 4000000 in
set_option maxRecDepth 10000 in
theorem radd_any (J gr : Nat) (s : DS) (hok : s.Ok) (z : Nat) (n : Nt) (v : Value) (w : World) (h : RkS w gr s) (hJ : Rj w J gr z) (hn : NtV n v w) (hgd : goodN n = true) (hz : z ≤ 262144) :
    Calls Try.prog 40 #[.pointer (some ⟨J, 0, none⟩), v] w fun e w' => e = .returned (.int .i64 (adS s (frameB (encN n))).1) ∧ RkS w' gr (adS s (frameB (encN n))).2 ∧ Rj w' J gr (adZ s (frameB (encN n)) z : Nat) ∧ Upd (SJ gr J) w w' := by
  have hJg := hJ.ne h
  have hgl := blk_lt h
  have hv := hn
  obtain ⟨A, c, A2, c2, rfl, -, -⟩ := hn
  have hb := Gr.alloc w (.cells (n.cells A c A2 c2) 25)
  have hfr := rframe_ok n A c A2 c2 _ (NtV.gr hb (Lib.hid hv)).out hgd
  replace hfr := Lib.hid hfr
  have hR1 := Lib.hid (h.gr hb)
  have hJ1 := Lib.hid (blk_below hJ hb)
  have hu1 : Hid (Upd (SJ gr J) w (w.alloc (.cells (n.cells A c A2 c2) 25))) := Lib.hid (Upd.of_below hb)
  have hs1 := hb.size
  have hlen2 := encN_len ((good_iff n).1 hgd)
  have hYl := frameB_len (encN n)
  unfold Nt.cells at hfr hR1 hJ1 hu1 hs1
  clear hb hv h hJ
  unfold Nt.agg at hfr ⊢
  obtain ⟨Y, hY⟩ : ∃ Y, frameB (encN n) = Y := ⟨_, rfl⟩
  rw [hY] at hYl hfr ⊢
  obtain ⟨ny, hny⟩ : ∃ ny, Y.length = ny := ⟨_, rfl⟩
  have hny2 : ny ≤ 100000 := by omega
  replace hY := Lib.hid hY
  replace hny := Lib.hid hny
  clear hYl hlen2
  go_enter Try.func40, Try.ntmps40
  go_wp2_with fail
  refine hfr.out.mono ?_
  clear hfr
  rintro e w3 ⟨v3, rfl, ho3, hg3⟩
  have hR3 := Lib.hid (hR1.out.gr hg3)
  have hJ3 := Lib.hid (blk_below hJ1.out hg3)
  have hu3 := Lib.hid (hu1.out.trans (Upd.of_below hg3))
  obtain ⟨A3, c3, rfl, hc31, hc32, hr3, -⟩ := ho3.form
  have hap := rapp_any gr s hok A3 ny c3 Y hny.out (by omega) w3 hR3.out hr3 (by
    rw [hny.out] at ho3
    exact OB.ne_old ho3 (by omega))
  rw [hny.out] at ho3 hc31 ⊢
  obtain ⟨R, hR⟩ : ∃ R, s.append Y = R := ⟨_, rfl⟩
  have hadS : Hid (adS s Y = if R.1 = 0 then R.2.sync else R) := Lib.hid (by unfold adS; rw [hR])
  have hok2 := hok.append Y
  rw [hR] at hap hok2
  replace hap := Lib.hid hap
  replace hR := Lib.hid hR
  have hok2 := Lib.hid hok2
  have x0 := blk_cell (j := 0) (v := .pointer (some ⟨gr, 0, none⟩)) hJ3.out rfl
  clear hg3 ho3 hr3 hR1 hJ1 hu1 hs1
  go_wp2_with fail
  refine hap.out.mono ?_
  clear hap x0
  rintro e w4 ⟨rfl, hR4, hu4⟩
  have hJ4 := Lib.hid ((show Rj w3 J gr z from hJ3.out).updG hJg hu4)
  have hv4 := Lib.hid (hu3.out.trans (hu4.sj (J := J)))
  clear hu4
  by_cases hz1 : R.1 = 0
  · have hsy := rsyn_any gr R.2 hok2.out w4 hR4
    obtain ⟨R2, hR2⟩ : ∃ R2, R.2.sync = R2 := ⟨_, rfl⟩
    have had2 : Hid (adS s Y = R2) := Lib.hid (by rw [hadS.out, if_pos hz1, hR2])
    rw [hR2] at hsy
    replace hsy := Lib.hid hsy
    replace hR2 := Lib.hid hR2
    have x0 := blk_cell (j := 0) (v := .pointer (some ⟨gr, 0, none⟩)) hJ4.out rfl
    have hz2 : (R.1 == 0) = true := beq_iff_eq.mpr hz1
    clear hR4
    go_wp2_with fail
    refine hsy.out.mono ?_
    clear hsy x0
    rintro e w5 ⟨rfl, hR5, hu5⟩
    have hJ5 := Lib.hid ((show Rj w4 J gr z from hJ4.out).updG hJg hu5)
    have hv5 := Lib.hid (hv4.out.trans (hu5.sj (J := J)))
    clear hu5
    by_cases hz3 : R2.1 = 0
    · have hz4 : (R2.1 == 0) = true := beq_iff_eq.mpr hz3
      have hR6 : Hid (RkS (w5.setCell ⟨J, 1, none⟩ (.int .i64 (z + ny : Nat))) gr R2.2) := Lib.hid ((blk_other (Ne.symm hJg) 1 _).trans hR5)
      have x1 := blk_cell (j := 1) (v := .int .i64 z) hJ5.out rfl
      have f1 := blk_free hJ5.out 1
      have hJ6 := Lib.hid (blk_set hJ5.out 1 (.int .i64 (z + ny : Nat)))
      have hv6 := Lib.hid (hv5.out.trans (Upd.of_grown (S := SJ gr J) (blk_grown w5 J 1 (.int .i64 (z + ny : Nat))) (.inr rfl)))
      have hw64 : IntKind.i64.wrap ((z : Int) + (ny : Int)) = ((z + ny : Nat) : Int) := by rw [IntKind.wrap_i64]; omega
      have hz3' := Lib.hid hz3
      clear hR5 hJ5 hv5
      go_wp2_with fail
      rw [had2.out]
      go_ret
      refine ⟨by first | rfl | (rw [hz3'.out]; rfl) | rw [hz3'.out], hR6.out, ?_, hv6.out⟩
      have ez : adZ s Y z = z + ny := by unfold adZ; rw [had2.out, if_pos hz3'.out, hny.out]
      rw [ez]
      exact hJ6.out
    · have hz4 : (R2.1 == 0) = false := beq_eq_false_iff_ne.mpr hz3
      have hz3' := Lib.hid hz3
      replace hR5 := Lib.hid hR5
      go_wp2_with fail
      rw [had2.out]
      go_ret
      refine ⟨rfl, hR5.out, ?_, hv5.out⟩
      have ez : adZ s Y z = z := by unfold adZ; rw [had2.out, if_neg hz3'.out]
      rw [ez]
      exact hJ5.out
  · have hz2 : (R.1 == 0) = false := beq_eq_false_iff_ne.mpr hz1
    have had2 : Hid (adS s Y = R) := Lib.hid (by rw [hadS.out, if_neg hz1])
    have hz3' := Lib.hid hz1
    replace hR4 := Lib.hid hR4
    go_wp2_with fail
    rw [had2.out]
    go_ret
    refine ⟨rfl, hR4.out, ?_, hv4.out⟩
    have ez : adZ s Y z = z := by unfold adZ; rw [had2.out, if_neg hz3'.out]
    rw [ez]
    exact hJ4.out
end Go.Proofs.Ytgdbbjijneidaaa
/- Swap of the journal with a note that may not be. -/
namespace Go.Proofs.Ytgdbbjijneidaaa
set_option linter.unusedVariables false
set_option linter.unusedSimpArgs false
open Go Go.RowKit
set_option maxHeartbeats 4000000 in
set_option maxRecDepth 20000 in
theorem jswap_bad (J : Nat) (L : List Nt) (v : Value) (hbad : ∃ n ∈ L, goodN n = false) (hL : L.length ≤ 100) (w : World) (h : NsV L v w) :
    Calls Try.prog 37 #[.pointer (some ⟨J, 0, none⟩), v] w fun e w' => e = .returned (.int .i64 12) ∧ Gr w w' := by
  obtain ⟨A, c, rfl, hc1, hc2⟩ := h.len
  obtain ⟨n, hn⟩ : ∃ n, L.length = n := ⟨_, rfl⟩
  rw [hn] at h hL ⊢
  obtain ⟨N, hN⟩ : ∃ N, w.heap.size = N := ⟨_, rfl⟩
  have hlb : ∀ k, k ≤ n → (∀ m ∈ L.take k, goodN m = true) → (framesB (L.take k)).length ≤ 300000 := fun k hk hg => by
    have h1 := framesB_len (L := L.take k) hg
    rw [List.length_take, hn] at h1
    have : min k n ≤ 100 := by omega
    omega
  replace hlb := Lib.hid hlb
  replace h := Lib.hid h
  replace hn := Lib.hid hn
  replace hN := Lib.hid hN
  replace hbad := Lib.hid hbad
  have ho0 := Lib.hid (OB.nil_ w N)
  have hg0 := Lib.hid (Gr.refl w)
  clear hc1 hc2
  go_enter Try.func37, Try.ntmps37
  go_wp2_with fail
  go_loopw [5, 15] (fun ov i wr => ∃ (j : Nat) (A1 : Option Addr) (m1 c1 : Nat), i = .int .i64 j ∧ ov = .slice A1 m1 c1 ∧ j ≤ n ∧ Hid (OB wr N (.slice A1 m1 c1) (framesB (L.take j))) ∧ Hid (Gr w wr) ∧ Hid (∀ m ∈ L.take j, goodN m = true)) (fun _ i _ => n - (intOf i).toNat)
  case atStart => exact ⟨0, _, _, _, rfl, rfl, Nat.zero_le _, ho0, hg0, Lib.hid (fun m hm => by simp at hm)⟩
  case round =>
    clear ho0 hg0
    obtain ⟨j, A1, m1, c1, rfl, rfl, hj, ho, hg, hall⟩ := hrel
    by_cases hlt : j < n
    · obtain ⟨b, o, xn, xA, xc, xA2, xc2, rfl, hq, hxv, hbl, hcx⟩ := h.out.get (i := j) (by rw [hn.out]; exact hlt)
      cases hxg : goodN xn with
      | false =>
        have hb := Gr.alloc wr (.cells (xn.cells xA xc xA2 xc2) 25)
        have hen := Lib.hid (encode_no xn _ _ (NtV.gr hb (Lib.hid (hxv.gr hg.out).ntv)).out hxg)
        have hgb := Lib.hid (hg.out.trans hb)
        unfold Nt.cells at hen hgb
        unfold Ne.agg Nt.agg at hen
        simp only at hen
        have i1 : (j : Int) < (n : Int) := by omega
        obtain ⟨x0, x1, x2, x3, x4, x5, x6, x7⟩ := hcx wr hg.out
        replace hxg := Lib.hid hxg
        clear hcx hbl hxv hq ho hg hb
        go_wp2_with fail
        refine hen.out.mono ?_
        clear hen x0 x1 x2 x3 x4 x5 x6 x7
        rintro e w2 ⟨rfl, hg2⟩
        replace hg2 := Lib.hid (hgb.out.trans hg2)
        go_wp2_with fail
        go_ret
        exact ⟨rfl, hg2.out⟩
      | true =>
        have hb := Gr.alloc wr (.cells (xn.cells xA xc xA2 xc2) 25)
        have hen := Lib.hid (encode_ok xn _ _ (NtV.gr hb (Lib.hid (hxv.gr hg.out).ntv)).out hxg)
        have hgb := Lib.hid (hg.out.trans hb)
        have hob := OB.gr hb ho
        have hsb := hb.size
        unfold Nt.cells at hen hgb hob hsb
        unfold Ne.agg Nt.agg at hen
        simp only at hen
        have hall2 : Hid (∀ m ∈ L.take (j + 1), goodN m = true) := Lib.hid (fun m hm => by
          rw [List.take_add_one, hq] at hm
          rcases List.mem_append.mp hm with hm | hm
          · exact hall.out m hm
          · rw [show m = xn from by simpa using hm]; exact hxg)
        have hstep : Hid (framesB (L.take (j + 1)) = framesB (L.take j) ++ frameB (encN xn)) := Lib.hid (fr_step hq)
        have hX2 := encN_len ((good_iff xn).1 hxg)
        have hfl := frameB_len (encN xn)
        obtain ⟨X, hX⟩ : ∃ X, encN xn = X := ⟨_, rfl⟩
        rw [hX] at hen hstep hX2 hfl
        obtain ⟨Y, hY⟩ : ∃ Y, frameB X = Y := ⟨_, rfl⟩
        rw [hY] at hstep hfl
        have hYl : Y.length ≤ 2008 := by omega
        have hNs : N ≤ wr.heap.size := by have := hg.out.size; rw [hN.out] at this; exact this
        have hob' := hlb.out j (by omega) hall.out
        obtain ⟨A1', c1', e1, -, -, -, -⟩ := ho.out.form
        injection e1 with e0 e1 e2'
        clear e0 e2'
        have i1 : (j : Int) < (n : Int) := by omega
        obtain ⟨x0, x1, x2, x3, x4, x5, x6, x7⟩ := hcx wr hg.out
        replace hxg := Lib.hid hxg
        replace hX := Lib.hid hX
        replace hY := Lib.hid hY
        replace e1 := Lib.hid e1
        clear hcx hbl hfl hxv hq ho hg hb
        go_wp2_with fail
        refine hen.out.mono ?_
        clear hen x0 x1 x2 x3 x4 x5 x6 x7
        rintro e w2 ⟨v2, rfl, ho2, hg2⟩
        have hgc := Lib.hid (hgb.out.trans hg2)
        have hoc := OB.gr hg2 hob
        have hs2 := hg2.size
        have hfr := Lib.hid (frame_any X v2 (by omega) w2 (Byt.ob ho2))
        obtain ⟨A2', m2, c2', rfl⟩ := ho2.shape
        clear hg2 ho2 hgb hob
        go_wp2_with fail
        refine hfr.out.mono ?_
        clear hfr
        rintro e w3 ⟨v3, rfl, ho3, hg3⟩
        rw [hY.out] at ho3
        have hgd := Lib.hid (hgc.out.trans hg3)
        have hod := OB.gr hg3 hoc
        have hs3 := hg3.size
        obtain ⟨A3, c3, rfl, hc31, hc32, hR3, -⟩ := ho3.form
        obtain ⟨ny, hny⟩ : ∃ ny, Y.length = ny := ⟨_, rfl⟩
        rw [hny] at ho3 hYl hc31 ⊢
        have hNs3 : N ≤ w3.heap.size := by omega
        replace hny := Lib.hid hny
        replace ho3 := Lib.hid ho3
        replace hR3 := Lib.hid hR3
        rw [← hny.out] at hYl
        clear hg3 hgc hoc
        go_wp2_with (at_builtin; go_must (refine wpl_append rfl (.tmp 27) (.tmp 29) rfl N (.slice A1 m1 c1) (framesB (L.take j)) rfl hod.out _ A3 c3 Y (by rw [hny.out]; rfl) ho3.out.rd.1 (by omega) (by omega) ?_); intro v6 w6 ho6 hg6 _; have hl6 : Below N w3 w6 := (Below.refl _ _).grown hg6 (by omega) (fun k hk => (hod.out.lt k hk).1); have hge : Hid (Gr w w6) := Lib.hid (by have h := hgd.out; unfold Gr at *; rw [hN.out] at *; exact h.trans hl6); rw [← hstep.out] at ho6; obtain ⟨A6, c6, rfl, -⟩ := ho6.form; replace ho6 := Lib.hid ho6; clear hg6 hl6)
        go_roundw
        case rel => exact ⟨j + 1, A6, _, c6, by go_num, rfl, by omega, ho6, hge, hall2⟩
        case measure => simp [intOf]; omega
    · exfalso
      obtain ⟨m, hm, hm2⟩ := hbad.out
      have hjn : j = n := by omega
      have := hall.out m (by rw [hjn, ← hn.out, List.take_length]; exact hm)
      rw [hm2] at this
      cases this
end Go.Proofs.Ytgdbbjijneidaaa
/- The reference's Swap of notes that may be. -/
namespace Go.Proofs.Ytgdbbjijneidaaa
set_option linter.unusedVariables false
set_option linter.unusedSimpArgs false
open Go Go.RowKit
set_option maxHeartbeats 4000000 in
set_option maxRecDepth 20000 in
theorem rjswap_any (J gr : Nat) (s : DS) (hok : s.Ok) (z : Nat) (L : List Nt) (v : Value) (hgood : ∀ n ∈ L, goodN n = true) (hL : L.length ≤ 100) (w : World) (hD : RkS w gr s) (hJ : Rj w J gr z) (h : NsV L v w) :
    Calls Try.prog 38 #[.pointer (some ⟨J, 0, none⟩), v] w fun e w' => e = .returned (.int .i64 (s.swap (framesB L)).1) ∧ RkS w' gr (s.swap (framesB L)).2 ∧ Rj w' J gr (swZ s (framesB L) z : Nat) ∧ Upd (SJ gr J) w w' := by
  have hJg : J ≠ gr := hJ.ne hD
  have hgl := blk_lt hD
  obtain ⟨A, c, rfl, hc1, hc2⟩ := h.len
  obtain ⟨n, hn⟩ : ∃ n, L.length = n := ⟨_, rfl⟩
  rw [hn] at h hL ⊢
  obtain ⟨N, hN⟩ : ∃ N, w.heap.size = N := ⟨_, rfl⟩
  have hlb : Hid (∀ k, k ≤ n → (framesB (L.take k)).length ≤ 300000) := Lib.hid (fun k hk => by
    have h1 := framesB_len (L := L.take k) (fun m hm => hgood m (List.mem_of_mem_take hm))
    rw [List.length_take, hn] at h1
    have : min k n ≤ 100 := by omega
    omega)
  have hg1 := Gr.alloc w (.cells #[] 5)
  have hob := OB.empty w N (by omega)
  obtain ⟨w1, hw1⟩ : ∃ w1, w.alloc (.cells #[] 5) = w1 := ⟨_, rfl⟩
  rw [hw1] at hg1 hob
  rw [hN] at hob hgl
  replace h := Lib.hid h
  replace hn := Lib.hid hn
  replace hN := Lib.hid hN
  replace hgood := Lib.hid hgood
  replace hD := Lib.hid hD
  replace hJ := Lib.hid hJ
  replace hw1 := Lib.hid hw1
  have ho0 := Lib.hid hob
  have hg0 := Lib.hid hg1
  clear hc1 hc2 hob hg1
  go_enter Try.func38, Try.ntmps38
  go_wp2_with fail
  rw [hN.out, hw1.out]
  clear hw1
  go_loopw [5, 6] (fun ov i wr => ∃ (j : Nat) (A1 : Option Addr) (m1 c1 : Nat), i = .int .i64 j ∧ ov = .slice A1 m1 c1 ∧ j ≤ n ∧ Hid (OB wr N (.slice A1 m1 c1) (framesB (L.take j))) ∧ Hid (Gr w wr)) (fun _ i _ => n - (intOf i).toNat)
  case atStart => exact ⟨0, _, _, _, rfl, rfl, Nat.zero_le _, ho0, hg0⟩
  case round =>
    clear ho0 hg0
    obtain ⟨j, A1, m1, c1, rfl, rfl, hj, ho, hg⟩ := hrel
    by_cases hlt : j < n
    · obtain ⟨b, o, xn, xA, xc, xA2, xc2, rfl, hq, hxv, hbl, hcx⟩ := h.out.get (i := j) (by rw [hn.out]; exact hlt)
      have hxg : goodN xn = true := hgood.out xn (List.mem_of_getElem? hq)
      have hfr := Lib.hid (rframe_ok xn xA xc xA2 xc2 wr (hxv.gr hg.out).ntv hxg)
      unfold Nt.agg at hfr
      have hstep : Hid (framesB (L.take (j + 1)) = framesB (L.take j) ++ frameB (encN xn)) := Lib.hid (fr_step hq)
      have hX2 := encN_len ((good_iff xn).1 hxg)
      have hfl := frameB_len (encN xn)
      obtain ⟨Y, hY⟩ : ∃ Y, frameB (encN xn) = Y := ⟨_, rfl⟩
      rw [hY] at hfr hstep hfl
      have hYl : Y.length ≤ 2008 := by omega
      have hNs : N ≤ wr.heap.size := by have := hg.out.size; rw [hN.out] at this; exact this
      have hob' := hlb.out j (by omega)
      obtain ⟨A1', c1', e1, -, -, -, -⟩ := ho.out.form
      injection e1 with e0 e1 e2'
      clear e0 e2'
      have i1 : (j : Int) < (n : Int) := by omega
      obtain ⟨x0, x1, x2, x3, x4, x5, x6, x7⟩ := hcx wr hg.out
      replace hxg := Lib.hid hxg
      replace hY := Lib.hid hY
      replace e1 := Lib.hid e1
      clear hcx hbl hX2 hfl hxv hq
      go_wp2_with fail
      refine hfr.out.mono ?_
      clear hfr x0 x1 x2 x3 x4 x5 x6 x7
      rintro e w3 ⟨v3, rfl, ho3, hg3⟩
      have hgd := Lib.hid (hg.out.trans hg3)
      have hod := OB.gr hg3 ho
      have hs3 := hg3.size
      obtain ⟨A3, c3, rfl, hc31, hc32, hR3, -⟩ := ho3.form
      obtain ⟨ny, hny⟩ : ∃ ny, Y.length = ny := ⟨_, rfl⟩
      rw [hny] at ho3 hYl hc31 ⊢
      have hNs3 : N ≤ w3.heap.size := by omega
      replace hny := Lib.hid hny
      replace ho3 := Lib.hid ho3
      replace hR3 := Lib.hid hR3
      rw [← hny.out] at hYl
      clear hg3 hg ho
      go_wp2_with (at_builtin; go_must (refine wpl_append rfl (.tmp 28) (.tmp 29) rfl N (.slice A1 m1 c1) (framesB (L.take j)) rfl hod.out _ A3 c3 Y (by rw [hny.out]; rfl) ho3.out.rd.1 (by omega) (by omega) ?_); intro v6 w6 ho6 hg6 _; have hl6 : Below N w3 w6 := (Below.refl _ _).grown hg6 (by omega) (fun k hk => (hod.out.lt k hk).1); have hge : Hid (Gr w w6) := Lib.hid (by have h := hgd.out; unfold Gr at *; rw [hN.out] at *; exact h.trans hl6); rw [← hstep.out] at ho6; obtain ⟨A6, c6, rfl, -⟩ := ho6.form; replace ho6 := Lib.hid ho6; clear hg6 hl6)
      go_roundw
      case rel => exact ⟨j + 1, A6, _, c6, by go_num, rfl, by omega, ho6, hge⟩
      case measure => simp [intOf]; omega
    · obtain rfl : j = n := by omega
      have hall : L.take j = L := by rw [← hn.out, List.take_length]
      have hlx := hlb.out j (Nat.le_refl _)
      rw [hall] at ho hlx
      obtain ⟨X, hX⟩ : ∃ X, framesB L = X := ⟨_, rfl⟩
      rw [hX] at ho hlx
      obtain ⟨A1', c1', e1, hc11, -, hR1, -⟩ := ho.out.form
      injection e1 with e0 e1 e2'
      subst e0
      obtain ⟨nx, hnx⟩ : ∃ nx, X.length = nx := ⟨_, rfl⟩
      rw [hnx] at e1 hlx hc11
      subst e1
      have hd1 := hD.out.gr hg.out
      have hj1 := Lib.hid (blk_below hJ.out hg.out)
      have hsw := rswp_any gr s hok A1 m1 c1 X hnx (by omega) wr hd1 hR1 (OB.ne_old ho.out (by omega))
      obtain ⟨R, hR⟩ : ∃ R, s.swap X = R := ⟨_, rfl⟩
      have hz0 : Hid (swZ s X z = if R.1 = 0 then m1 else z) := Lib.hid (by unfold swZ; rw [hR, hnx])
      rw [hR] at hsw
      replace hsw := Lib.hid hsw
      replace hR := Lib.hid hR
      replace hX := Lib.hid hX
      replace hnx := Lib.hid hnx
      replace hd1 := Lib.hid hd1
      have x0 := blk_cell (j := 0) (v := .pointer (some ⟨gr, 0, none⟩)) hj1.out rfl
      have hxn : m1 ≤ 300000 := hlx
      clear hall hlx hR1 ho e2' hlt hj hc11
      go_wp2_with fail
      refine hsw.out.mono ?_
      clear hsw x0
      rintro e w5 ⟨rfl, hD5, hu5⟩
      have ht5 := Lib.hid ((Upd.of_below hg.out : Upd (SJ gr J) w wr).trans (hu5.sj (J := J)))
      have hj5 : Hid (Rj w5 J gr z) := Lib.hid ((show Rj wr J gr z from hj1.out).updG hJg hu5)
      clear hu5
      by_cases hz1 : R.1 = 0
      · have hz2 : (R.1 == 0) = true := beq_iff_eq.mpr hz1
        have hD6 : Hid (RkS (w5.setCell ⟨J, 1, none⟩ (.int .i64 (m1 : Nat))) gr R.2) := Lib.hid ((blk_other (Ne.symm hJg) 1 _).trans hD5)
        have x1 := blk_cell (j := 1) (v := .int .i64 z) hj5.out rfl
        have f1 := blk_free hj5.out 1
        have hJ6 := Lib.hid (blk_set hj5.out 1 (.int .i64 (m1 : Nat)))
        have hl6 := Lib.hid (ht5.out.trans (Upd.of_grown (S := SJ gr J) (blk_grown w5 J 1 (.int .i64 (m1 : Nat))) (.inr rfl)))
        have ez : Hid (swZ s X z = m1) := Lib.hid (by rw [hz0.out, if_pos hz1])
        have hz3 := Lib.hid hz1
        clear hD5 hj5 ht5
        go_wp2_with fail
        rw [hX.out, hR.out]
        go_ret
        refine ⟨by first | rfl | (rw [hz3.out]; rfl) | rw [hz3.out], hD6.out, ?_, hl6.out⟩
        rw [ez.out]
        exact hJ6.out
      · have hz2 : (R.1 == 0) = false := beq_eq_false_iff_ne.mpr hz1
        have ez : Hid (swZ s X z = z) := Lib.hid (by rw [hz0.out, if_neg hz1])
        replace hD5 := Lib.hid hD5
        replace hz1 := Lib.hid hz1
        go_wp2_with fail
        rw [hX.out, hR.out]
        go_ret
        refine ⟨rfl, hD5.out, ?_, ht5.out⟩
        rw [ez.out]
        exact hj5.out
end Go.Proofs.Ytgdbbjijneidaaa
/- The reference's Swap with a note that may not be. -/
namespace Go.Proofs.Ytgdbbjijneidaaa
set_option linter.unusedVariables false
set_option linter.unusedSimpArgs false
open Go Go.RowKit
set_option maxHeartbeats 4000000 in
set_option maxRecDepth 20000 in
theorem rjswap_bad (J : Nat) (L : List Nt) (v : Value) (hbad : ∃ n ∈ L, goodN n = false) (hL : L.length ≤ 100) (w : World) (h : NsV L v w) :
    Calls Try.prog 38 #[.pointer (some ⟨J, 0, none⟩), v] w fun e w' => e = .returned (.int .i64 12) ∧ Gr w w' := by
  obtain ⟨A, c, rfl, hc1, hc2⟩ := h.len
  obtain ⟨n, hn⟩ : ∃ n, L.length = n := ⟨_, rfl⟩
  rw [hn] at h hL ⊢
  obtain ⟨N, hN⟩ : ∃ N, w.heap.size = N := ⟨_, rfl⟩
  have hlb : ∀ k, k ≤ n → (∀ m ∈ L.take k, goodN m = true) → (framesB (L.take k)).length ≤ 300000 := fun k hk hg => by
    have h1 := framesB_len (L := L.take k) hg
    rw [List.length_take, hn] at h1
    have : min k n ≤ 100 := by omega
    omega
  replace hlb := Lib.hid hlb
  have hg1 := Gr.alloc w (.cells #[] 5)
  have hob := OB.empty w N (by omega)
  obtain ⟨w1, hw1⟩ : ∃ w1, w.alloc (.cells #[] 5) = w1 := ⟨_, rfl⟩
  rw [hw1] at hg1 hob
  rw [hN] at hob
  replace h := Lib.hid h
  replace hn := Lib.hid hn
  replace hN := Lib.hid hN
  replace hbad := Lib.hid hbad
  replace hw1 := Lib.hid hw1
  have ho0 := Lib.hid hob
  have hg0 := Lib.hid hg1
  clear hc1 hc2 hob hg1
  go_enter Try.func38, Try.ntmps38
  go_wp2_with fail
  rw [hN.out, hw1.out]
  clear hw1
  go_loopw [5, 6] (fun ov i wr => ∃ (j : Nat) (A1 : Option Addr) (m1 c1 : Nat), i = .int .i64 j ∧ ov = .slice A1 m1 c1 ∧ j ≤ n ∧ Hid (OB wr N (.slice A1 m1 c1) (framesB (L.take j))) ∧ Hid (Gr w wr) ∧ Hid (∀ m ∈ L.take j, goodN m = true)) (fun _ i _ => n - (intOf i).toNat)
  case atStart => exact ⟨0, _, _, _, rfl, rfl, Nat.zero_le _, ho0, hg0, Lib.hid (fun m hm => by simp at hm)⟩
  case round =>
    clear ho0 hg0
    obtain ⟨j, A1, m1, c1, rfl, rfl, hj, ho, hg, hall⟩ := hrel
    by_cases hlt : j < n
    · obtain ⟨b, o, xn, xA, xc, xA2, xc2, rfl, hq, hxv, hbl, hcx⟩ := h.out.get (i := j) (by rw [hn.out]; exact hlt)
      cases hxg : goodN xn with
      | false =>
        have hfr := Lib.hid (rframe_no xn _ wr (hxv.gr hg.out).ntv hxg)
        unfold Ne.agg Nt.agg at hfr
        simp only at hfr
        have i1 : (j : Int) < (n : Int) := by omega
        obtain ⟨x0, x1, x2, x3, x4, x5, x6, x7⟩ := hcx wr hg.out
        replace hxg := Lib.hid hxg
        clear hcx hbl hxv hq ho
        go_wp2_with fail
        refine hfr.out.mono ?_
        clear hfr x0 x1 x2 x3 x4 x5 x6 x7
        rintro e w2 ⟨rfl, hg2⟩
        replace hg2 := Lib.hid (hg.out.trans hg2)
        go_wp2_with fail
        go_ret
        exact ⟨rfl, hg2.out⟩
      | true =>
        have hfr := Lib.hid (rframe_ok xn xA xc xA2 xc2 wr (hxv.gr hg.out).ntv hxg)
        unfold Nt.agg at hfr
        have hall2 : Hid (∀ m ∈ L.take (j + 1), goodN m = true) := Lib.hid (fun m hm => by
          rw [List.take_add_one, hq] at hm
          rcases List.mem_append.mp hm with hm | hm
          · exact hall.out m hm
          · rw [show m = xn from by simpa using hm]; exact hxg)
        have hstep : Hid (framesB (L.take (j + 1)) = framesB (L.take j) ++ frameB (encN xn)) := Lib.hid (fr_step hq)
        have hX2 := encN_len ((good_iff xn).1 hxg)
        have hfl := frameB_len (encN xn)
        obtain ⟨Y, hY⟩ : ∃ Y, frameB (encN xn) = Y := ⟨_, rfl⟩
        rw [hY] at hfr hstep hfl
        have hYl : Y.length ≤ 2008 := by omega
        have hNs : N ≤ wr.heap.size := by have := hg.out.size; rw [hN.out] at this; exact this
        have hob' := hlb.out j (by omega) hall.out
        obtain ⟨A1', c1', e1, -, -, -, -⟩ := ho.out.form
        injection e1 with e0 e1 e2'
        clear e0 e2'
        have i1 : (j : Int) < (n : Int) := by omega
        obtain ⟨x0, x1, x2, x3, x4, x5, x6, x7⟩ := hcx wr hg.out
        replace hxg := Lib.hid hxg
        replace hY := Lib.hid hY
        replace e1 := Lib.hid e1
        clear hcx hbl hX2 hfl hxv hq
        go_wp2_with fail
        refine hfr.out.mono ?_
        clear hfr x0 x1 x2 x3 x4 x5 x6 x7
        rintro e w3 ⟨v3, rfl, ho3, hg3⟩
        have hgd := Lib.hid (hg.out.trans hg3)
        have hod := OB.gr hg3 ho
        have hs3 := hg3.size
        obtain ⟨A3, c3, rfl, hc31, hc32, hR3, -⟩ := ho3.form
        obtain ⟨ny, hny⟩ : ∃ ny, Y.length = ny := ⟨_, rfl⟩
        rw [hny] at ho3 hYl hc31 ⊢
        have hNs3 : N ≤ w3.heap.size := by omega
        replace hny := Lib.hid hny
        replace ho3 := Lib.hid ho3
        replace hR3 := Lib.hid hR3
        rw [← hny.out] at hYl
        clear hg3 hg ho
        go_wp2_with (at_builtin; go_must (refine wpl_append rfl (.tmp 28) (.tmp 29) rfl N (.slice A1 m1 c1) (framesB (L.take j)) rfl hod.out _ A3 c3 Y (by rw [hny.out]; rfl) ho3.out.rd.1 (by omega) (by omega) ?_); intro v6 w6 ho6 hg6 _; have hl6 : Below N w3 w6 := (Below.refl _ _).grown hg6 (by omega) (fun k hk => (hod.out.lt k hk).1); have hge : Hid (Gr w w6) := Lib.hid (by have h := hgd.out; unfold Gr at *; rw [hN.out] at *; exact h.trans hl6); rw [← hstep.out] at ho6; obtain ⟨A6, c6, rfl, -⟩ := ho6.form; replace ho6 := Lib.hid ho6; clear hg6 hl6)
        go_roundw
        case rel => exact ⟨j + 1, A6, _, c6, by go_num, rfl, by omega, ho6, hge, hall2⟩
        case measure => simp [intOf]; omega
    · exfalso
      obtain ⟨m, hm, hm2⟩ := hbad.out
      have hjn : j = n := by omega
      have := hall.out m (by rw [hjn, ← hn.out, List.take_length]; exact hm)
      rw [hm2] at this
      cases this
end Go.Proofs.Ytgdbbjijneidaaa
/- The reference's Open: what lies behind the notes is removed. -/
namespace Go.Proofs.Ytgdbbjijneidaaa
set_option linter.unusedVariables false
set_option linter.unusedSimpArgs false
open Go Go.RowKit
theorem Rd.ne_rk {w : World} {gr B : Nat} {s : DS} {A : Option Addr} {l : List UInt8} (h : RkS w gr s) (hr : Rd w B A l) : ∀ ad, A = some ad → 0 < l.length → ¬ (ad.block = gr) := fun ad e hn hg => by
  obtain ⟨ad', e', -, hc⟩ := hr.at_ hn
  rw [e] at e'
  injection e' with e'
  subst e'
  have hh : w.heap[gr]? = _ := h
  unfold World.cell? at hc
  rw [block_of_add, hg, hh] at hc
  simp only at hc
  split at hc
  · cases hc
  · rcases ho : (ad.add 0).off with _ | _ | _ | k
    · rw [ho] at hc; simp at hc
    · rw [ho] at hc; simp at hc
    · rw [ho] at hc; simp at hc
    · rw [ho] at hc; simp at hc
theorem Pls.ne_rk {w : World} {gr : Nat} {s : DS} {l : List (Int × Int)} {A : Option Addr} {n c : Nat} (h : RkS w gr s) (hp : Pls l (.slice A n c) w) (hl : 0 < l.length) : ∀ ad, A = some ad → ¬ (ad.block = gr) := fun ad e hg => by
  obtain ⟨A', c', e', -, -, h3, -⟩ := hp
  injection e' with e' _ _
  obtain ⟨b, o, e2, -, hc⟩ := h3 hl
  rw [e] at e'
  rw [← e'] at e2
  injection e2 with e2
  subst e2
  have hg : b = gr := hg
  subst hg
  obtain ⟨x, hx⟩ : ∃ x, l[0]? = some x := ⟨_, List.getElem?_eq_getElem hl⟩
  obtain ⟨c0, c1⟩ := hc 0 x hx
  have hh : w.heap[b]? = _ := h
  rw [Nat.zero_mul, Nat.add_zero] at c0 c1
  unfold World.cell? at c0 c1
  simp only [hh] at c0 c1
  rcases o with _ | _ | _ | o
  · simp at c0
  · simp at c0
  · simp at c1
  · simp at c0
theorem NeV.updG {w w' : World} {gr : Nat} {s : DS} {x : Ne} (hd : RkS w gr s) (h : NeV x w) (hu : UpdG gr w w') : NeV x w' := by
  obtain ⟨⟨A, c, e1, h1, h2, h3⟩, hp⟩ := h
  injection e1 with e1 _ e3
  have hne := fun hl ad e => Pls.ne_rk hd hp hl ad e
  obtain ⟨B, d, e2, g1, g2, g3, g4⟩ := hp
  injection e2 with e2 _ e4
  refine ⟨⟨A, c, by rw [e1, e3], h1, h2, Rd.upd h3 (Rd.ne_rk hd h3) hu⟩, ⟨B, d, by rw [e2, e4], g1, g2, fun hl => ?_, g4⟩⟩
  obtain ⟨b, o, e, hb, hc⟩ := g3 hl
  have hn : ¬ (b = gr) := hne hl ⟨b, o, none⟩ (by rw [e2]; exact e)
  refine ⟨b, o, e, Nat.lt_of_lt_of_le hb (Upd.size hu), fun i y hy => ⟨?_, ?_⟩⟩
  · rw [Upd.cell hu (p := ⟨b, o + i * 2, none⟩) hb hn]; exact (hc i y hy).1
  · rw [Upd.cell hu (p := ⟨b, o + i * 2 + 1, none⟩) hb hn]; exact (hc i y hy).2
theorem ON.updG {w w' : World} {gr base : Nat} {s : DS} {E : List Ne} {v : Value} (hd : RkS w gr s) (h : ON E v base w) (hu : UpdG gr w w') : ON E v base w' := by
  have hh : w.heap[gr]? = _ := hd
  refine ⟨row_keep h.row (fun k hk => hu.2.2.2.2 k (World.ownsRow.lt h.row k hk).2 (fun e => row_ne h.row hh (by decide) (by rw [hk, e]))), fun x hx => (h.vs x hx).updG hd hu, h.ap⟩
def ROpenPost (gr : Nat) (s : DS) (w : World) (e : Ending) (w' : World) : Prop :=
  RkS w' gr (opS s).2 ∧ UpdG gr w w' ∧
  (((opS s).1 = 0 ∧ ∃ K u E, e = .returned (.tuple #[.pointer (some ⟨K, 0, none⟩), u, .int .i64 0]) ∧ E.map (·.n) = (scanN s.c).1 ∧ ON E u w.heap.size w' ∧ Rj w' K gr (scanN s.c).2 ∧ w.heap.size ≤ K) ∨
   ((opS s).1 ≠ 0 ∧ e = .returned (.tuple #[.pointer none, .slice none 0 0, .int .i64 (opS s).1])))
set_option maxHeartbeats 4000000 in
set_option maxRecDepth 20000 in
theorem ropen_any (gr : Nat) (s : DS) (hok : s.Ok) (w : World) (h : RkS w gr s) :
    Calls Try.prog 31 #[.pointer (some ⟨gr, 0, none⟩)] w (ROpenPost gr s w) := by
  have hlen := hok.len
  have hle := scan_le s.c
  obtain ⟨N, hN⟩ : ∃ N, w.heap.size = N := ⟨_, rfl⟩
  obtain ⟨nb, hnb⟩ : ∃ nb, s.c.length = nb := ⟨_, rfl⟩
  obtain ⟨m, hm⟩ : ∃ m, (scanN s.c).2 = m := ⟨_, rfl⟩
  have hgl : gr < N := by rw [← hN]; exact blk_lt h
  have hk : Rk w gr (s.c.take s.dur) (s.c.drop s.dur) s.lf := h
  obtain ⟨su, hsu⟩ : ∃ su, s.c.take s.dur = su := ⟨_, rfl⟩
  obtain ⟨mo, hmo⟩ : ∃ mo, s.c.drop s.dur = mo := ⟨_, rfl⟩
  have hcat : s.c = su ++ mo := by rw [← hsu, ← hmo, List.take_append_drop]
  rw [hsu, hmo] at hk
  obtain ⟨wd, hwd⟩ : ∃ wd, wd = w.drew := ⟨_, rfl⟩
  have hdr : Gr w wd := by rw [hwd]; exact (Below.refl _ _).drew
  have hkd : Rk wd gr su mo s.lf := (Below.block hdr gr (blk_lt h)).trans hk
  have hsd : wd.heap.size = N := by rw [hwd]; exact hN
  obtain ⟨q0, q1, -, -⟩ := hkd.cells
  obtain ⟨cc, w1, hcv, hB1, hg1, -⟩ := tob_big wd (su ++ mo) (by rw [← hcat]; omega)
  rw [← hcat, hnb] at hB1
  have hcl : (su ++ mo).length = nb := by rw [← hcat]; exact hnb
  rw [hcl] at hcv
  rw [hsd] at hcv hB1
  have hR1 : RkS w1 gr s := (h.gr hdr).gr hg1
  have hg1' : Gr w w1 := hdr.trans hg1
  have hrs := rscan_at s.c (.slice (some ⟨N, 0, none⟩) nb cc) (by omega) w1 hB1 (fun _ => ⟨_, _, _, rfl⟩)
  rw [hm] at hrs
  have hc1 : nb ≤ cc := by
    obtain ⟨A', c', e, h1, -⟩ := hB1
    rw [hnb] at e h1
    injection e with _ _ e3
    omega
  rw [hnb] at hle
  rw [hm] at hle
  rw [hnb] at hlen
  replace hrs := Lib.hid hrs
  replace hB1 := Lib.hid hB1
  replace hR1 := Lib.hid hR1
  replace hg1' := Lib.hid hg1'
  replace hok := Lib.hid hok
  replace hnb := Lib.hid hnb
  replace hN := Lib.hid hN
  replace hm := Lib.hid hm
  replace hcat := Lib.hid hcat
  replace hsu := Lib.hid hsu
  replace hmo := Lib.hid hmo
  have hov : ¬ (9223372036854775807 < su.length + mo.length) := by rw [List.length_append] at hcl; omega
  replace hcl := Lib.hid hcl
  have hgd : gr < wd.heap.size := by rw [hsd]; exact hgl
  replace hg1 := Lib.hid hg1
  clear hk hkd hdr h hsd
  go_enter Try.func31, Try.ntmps31
  go_upto_region 1 with (fail)
  refine wpR_region (Gr) 9999 (by kernel_rfl) ?_
  (rw [← hwd]; replace hwd := Lib.hid hwd)
  refine wpR_take (i := 0) (v := ?_) (Gr.road) (some 9) rfl (by kernel_rfl) (by kernel_rfl) (by kernel_rfl) (by kernel_rfl) (by kernel_rfl) (fun _ _ _ h => h) (by kernel_rfl) (fun w' hw' => ?_) ?_
  rotate_left
  · go_simp; with_reducible rfl
  simp only [Act.put, List.setIfInBounds_toArray, List.set_cons_zero, List.set_cons_succ]
  refine wpR_take (i := 1) (v := ?_) (Gr.road) (some 10) rfl (by kernel_rfl) (by kernel_rfl) (by kernel_rfl) (by kernel_rfl) (by kernel_rfl) (fun _ _ _ h => h) (by kernel_rfl) (fun w' hw' => ?_) ?_
  rotate_left
  · go_simp; with_reducible rfl
  simp only [Act.put, List.setIfInBounds_toArray, List.set_cons_zero, List.set_cons_succ]
  refine wpR_take (i := 2) (v := ?_) (Gr.road) (some 11) rfl (by kernel_rfl) (by kernel_rfl) (by kernel_rfl) (by kernel_rfl) (by kernel_rfl) (fun _ _ _ h => h) (by kernel_rfl) (fun w' hw' => ?_) ?_
  rotate_left
  · go_simp; with_reducible rfl
  simp only [Act.put, List.setIfInBounds_toArray, List.set_cons_zero, List.set_cons_succ]
  refine wpR_take (i := 3) (v := ?_) (Gr.road) (some 12) rfl (by kernel_rfl) (by kernel_rfl) (by kernel_rfl) (by kernel_rfl) (by kernel_rfl) (fun _ _ _ h => h) (by kernel_rfl) (fun w' hw' => ?_) ?_
  rotate_left
  · have q0' := (cellGr hw' (a := ⟨gr, 0, none⟩) hgd).trans q0; go_simp; with_reducible rfl
  simp only [Act.put, List.setIfInBounds_toArray, List.set_cons_zero, List.set_cons_succ]
  refine wpR_take (i := 4) (v := ?_) (Gr.road) (some 13) rfl (by kernel_rfl) (by kernel_rfl) (by kernel_rfl) (by kernel_rfl) (by kernel_rfl) (fun _ _ _ h => h) (by kernel_rfl) (fun w' hw' => ?_) ?_
  rotate_left
  · go_simp; with_reducible rfl
  simp only [Act.put, List.setIfInBounds_toArray, List.set_cons_zero, List.set_cons_succ]
  refine wpR_take (i := 5) (v := ?_) (Gr.road) (some 14) rfl (by kernel_rfl) (by kernel_rfl) (by kernel_rfl) (by kernel_rfl) (by kernel_rfl) (fun _ _ _ h => h) (by kernel_rfl) (fun w' hw' => ?_) ?_
  rotate_left
  · go_simp; with_reducible rfl
  simp only [Act.put, List.setIfInBounds_toArray, List.set_cons_zero, List.set_cons_succ]
  refine wpR_take (i := 6) (v := ?_) (Gr.road) (some 15) rfl (by kernel_rfl) (by kernel_rfl) (by kernel_rfl) (by kernel_rfl) (by kernel_rfl) (fun _ _ _ h => h) (by kernel_rfl) (fun w' hw' => ?_) ?_
  rotate_left
  · go_simp; with_reducible rfl
  simp only [Act.put, List.setIfInBounds_toArray, List.set_cons_zero, List.set_cons_succ]
  refine wpR_take (i := 7) (v := ?_) (Gr.road) (some 16) rfl (by kernel_rfl) (by kernel_rfl) (by kernel_rfl) (by kernel_rfl) (by kernel_rfl) (fun _ _ _ h => h) (by kernel_rfl) (fun w' hw' => ?_) ?_
  rotate_left
  · have q1' := (cellGr hw' (a := ⟨gr, 1, none⟩) hgd).trans q1; go_simp; with_reducible rfl
  simp only [Act.put, List.setIfInBounds_toArray, List.set_cons_zero, List.set_cons_succ]
  refine wpR_take (i := 8) (v := ?_) (Gr.road) (some 17) rfl (by kernel_rfl) (by kernel_rfl) (by kernel_rfl) (by kernel_rfl) (by kernel_rfl) (fun _ _ _ h => h) (by kernel_rfl) (fun w' hw' => ?_) ?_
  rotate_left
  · go_simp; with_reducible rfl
  simp only [Act.put, List.setIfInBounds_toArray, List.set_cons_zero, List.set_cons_succ]
  refine wpR_one 9 rfl (by kernel_rfl) (by kernel_rfl) (fun K hK => ?_)
  go_simp
  refine hK _ _ (fun _ => hg1.out) ?_
  clear hK K
  replace hwd := Lib.hid hwd.out
  try simp only [Act.put, List.setIfInBounds_toArray, List.set_cons_zero, List.set_cons_succ]
  refine wpR_take (i := 10) (v := ?_) (Gr.road) (some 5) rfl (by kernel_rfl) (by kernel_rfl) (by kernel_rfl) (by kernel_rfl) (by kernel_rfl) (fun _ _ _ h => h) (by kernel_rfl) (fun w' hw' => ?_) ?_
  rotate_left
  · go_simp; with_reducible rfl
  simp only [Act.put, List.setIfInBounds_toArray, List.set_cons_zero, List.set_cons_succ]
  refine wpR_done (by kernel_rfl) ?_ _
  clear hov hcv q0 q1 hgd
  go_wp2_with fail
  refine hrs.out.mono ?_
  clear hrs
  rintro e w2 ⟨u, E, rfl, hE, ho, hg2⟩
  obtain ⟨Au, mu, cu, rfl⟩ : ∃ A m c, u = .slice A m c := by obtain ⟨A, c, e, -⟩ := ho.form; exact ⟨A, _, c, e⟩
  have hR2 := hR1.out.gr hg2
  have hN1 : N ≤ w1.heap.size := by have := hg1'.out.size; rw [hN.out] at this; exact this
  have hg2' := Lib.hid (hg1'.out.trans hg2)
  have hB2 := Byt.gr hg2 hB1
  replace ho : ON E (.slice Au mu cu) N w2 := ⟨row_more ho.row hN1, ho.vs, ho.ap⟩
  by_cases hw : m = nb
  · subst hw
    have ho2 : Hid (opS s = (0, s)) := Lib.hid (by unfold opS; rw [hm.out, hnb.out, if_neg (by omega)])
    have h1 : ¬ ((m : Int) < (m : Int)) := by omega
    have hga := Gr.alloc w2 (.cells #[.pointer (some ⟨gr, 0, none⟩), .int .i64 m] 77)
    have hK : Hid (Rj (w2.alloc (.cells #[.pointer (some ⟨gr, 0, none⟩), .int .i64 m] 77)) w2.heap.size gr m) := Lib.hid (heap_alloc_new w2 _)
    have ho4 := ON.gr hga (Lib.hid ho)
    have hR4 := Lib.hid (hR2.gr hga)
    have hg4 := Lib.hid (hg2'.out.trans hga)
    have hNs := hg2'.out.size
    rw [hN.out] at hNs
    replace hE := Lib.hid hE
    clear ho hR2 hga hB2 hg2
    go_wp2_with fail
    refine bodyPost_ret (v := .tuple #[.pointer (some ⟨w2.heap.size, 0, none⟩), .slice Au mu cu, .int .i64 0]) (by simp [results, Try.results31, go_sem]) rfl ?_
    unfold ROpenPost
    rw [ho2.out]
    exact ⟨hR4.out, Upd.of_below hg4.out, .inl ⟨rfl, _, _, E, rfl, hE.out, by rw [hN.out]; exact ho4.out, by rw [hm.out]; exact hK.out, by rw [hN.out]; exact hNs⟩⟩
  · have hlt : m < nb := by omega
    have ho2 : Hid (opS s = s.swap (s.c.take m)) := Lib.hid (by unfold opS; rw [hm.out, hnb.out, if_pos hlt])
    have h1 : (m : Int) < (nb : Int) := by omega
    have htl : (s.c.take m).length = m := by rw [List.length_take, hnb.out]; omega
    have hRd : Rd w2 w2.heap.size (some ⟨N, 0, none⟩) (s.c.take m) := by
      obtain ⟨A', c', e, -, -, hR'⟩ := hB2.out
      injection e with e
      subst e
      exact Rd.take hR' m (by rw [hnb.out]; omega)
    have hsw := Lib.hid (rswp_any gr s hok.out (some ⟨N, 0, none⟩) m cc (s.c.take m) htl (by omega) w2 hR2 hRd (fun ad e _ hb => by
      injection e with e
      rw [← e] at hb
      simp only at hb
      omega))
    have h2 : m ≤ cc := by omega
    have h3 : (m : Int) ≤ (cc : Int) := by omega
    replace ho := Lib.hid ho
    replace hE := Lib.hid hE
    replace hR2 := Lib.hid hR2
    clear hRd htl hB2 hg2
    go_wp2_with fail
    refine hsw.out.mono ?_
    clear hsw
    obtain ⟨R, hR⟩ : ∃ R, s.swap (s.c.take m) = R := ⟨_, rfl⟩
    rw [hR] at ho2 ⊢
    rintro e w3 ⟨rfl, hd3, hu3⟩
    have ho3 := ON.updG hR2.out ho.out hu3
    have hu : Hid (UpdG gr w w3) := Lib.hid ((Upd.of_below hg2'.out).trans hu3)
    have hs3 : N ≤ w3.heap.size := by have := Upd.size hu.out; rw [hN.out] at this; exact this
    replace hR := Lib.hid hR
    by_cases hz : R.1 = 0
    · have hz2 : (R.1 == 0) = true := beq_iff_eq.mpr hz
      have hga := Gr.alloc w3 (.cells #[.pointer (some ⟨gr, 0, none⟩), .int .i64 m] 77)
      have hK : Hid (Rj (w3.alloc (.cells #[.pointer (some ⟨gr, 0, none⟩), .int .i64 m] 77)) w3.heap.size gr m) := Lib.hid (heap_alloc_new w3 _)
      have ho4 := ON.gr hga (Lib.hid ho3)
      have hR4 := Lib.hid (hd3.gr hga)
      have hu4 := Lib.hid (hu.out.trans (Upd.of_below hga))
      replace hd3 := Lib.hid hd3
      replace hu3 := Lib.hid hu3
      replace ho3 := Lib.hid ho3
      replace hga := Lib.hid hga
      go_wp2_with fail
      refine bodyPost_ret (v := .tuple #[.pointer (some ⟨w3.heap.size, 0, none⟩), .slice Au mu cu, .int .i64 0]) (by simp [results, Try.results31, go_sem]) rfl ?_
      unfold ROpenPost
      rw [ho2.out]
      exact ⟨hR4.out, hu4.out, .inl ⟨hz, _, _, E, rfl, hE.out, by rw [hN.out]; exact ho4.out, by rw [hm.out]; exact hK.out, by rw [hN.out]; exact hs3⟩⟩
    · have hz2 : (R.1 == 0) = false := beq_eq_false_iff_ne.mpr hz
      replace hd3 := Lib.hid hd3
      replace hu3 := Lib.hid hu3
      replace ho3 := Lib.hid ho3
      go_wp2_with fail
      refine bodyPost_ret (v := .tuple #[.pointer none, .slice none 0 0, .int .i64 R.1]) (by simp [results, Try.results31, go_sem]) rfl ?_
      unfold ROpenPost
      rw [ho2.out]
      exact ⟨hd3.out, hu.out, .inr ⟨hz, rfl⟩⟩
end Go.Proofs.Ytgdbbjijneidaaa
/- A journal and the reference's, side by side: the state, and each act's contract whether its notes may be or not. -/
namespace Go.Proofs.Ytgdbbjijneidaaa
set_option linter.unusedVariables false
set_option linter.unusedSimpArgs false
open Go Go.RowKit
/-- the blocks that the reference turns -/
def rts : List TypeId := [70, 77]
def bts : List TypeId := [5, 97, 99, 70, 77]
theorem TChg.jb {lo : Nat} {w w' : World} (h : TChg lo jts w w') : TChg lo bts w w' := h.mono (Nat.le_refl _) (by decide)
theorem TChg.rb {lo : Nat} {w w' : World} (h : TChg lo rts w w') : TChg lo bts w w' := h.mono (Nat.le_refl _) (by decide)
theorem UpdG.tchg {w w' : World} {gr lo : Nat} {s : DS} (h : RkS w gr s) (hl : lo ≤ gr) (hu : UpdG gr w w') : TChg lo rts w w' :=
  ⟨hu.1, hu.2.1, hu.2.2.1, hu.2.2.2.1, fun k hk hn => hu.2.2.2.2 k hk (fun e => hn (by
    have e : k = gr := e
    rw [e]
    exact ⟨hl, _, _, h, by decide⟩))⟩
theorem Upd.sj_tchg {w w' : World} {gr K lo : Nat} {s : DS} {z : Int} (h : RkS w gr s) (hK : Rj w K gr z) (hl : lo ≤ gr) (hl2 : lo ≤ K) (hu : Upd (SJ gr K) w w') : TChg lo rts w w' :=
  ⟨hu.1, hu.2.1, hu.2.2.1, hu.2.2.2.1, fun k hk hn => hu.2.2.2.2 k hk (fun e => hn (by
    rcases e with e | e
    · rw [e]
      exact ⟨hl, _, _, h, by decide⟩
    · rw [e]
      exact ⟨hl2, _, _, hK, by decide⟩))⟩
theorem Dk.tchg2 {w w' : World} {lo hi g l : Nat} {s : DS} {ts : List TypeId} (hd : Dk w lo hi g s) (hc : TChg l ts w w') (h1 : 97 ∉ ts) (h2 : 5 ∉ ts) : Dk w' lo hi g s := by
  obtain ⟨v, a1, a2, a3, a4, a5, a6, a7⟩ := hd
  exact ⟨v, hc.block a1 h1, a2, a3, Nat.le_trans a4 hc.size, row_tchg a5 hc h2, a6, a7⟩
/-- both disks -/
structure BSt (w0 : World) (g gr : Nat) (s t : DS) (w : World) : Prop where
  B : Gr w0 w
  D : Dk w w0.heap.size w.heap.size g s
  R : RkS w gr t
  grl : w0.heap.size ≤ gr
theorem BSt.lw {w0 : World} {g gr : Nat} {s t : DS} {w : World} (h : BSt w0 g gr s t w) : w0.heap.size ≤ w.heap.size := h.B.size
theorem BSt.to {w0 : World} {g gr : Nat} {s t : DS} {w w' : World} (h : BSt w0 g gr s t w) {ts : List TypeId} (hc : TChg w0.heap.size ts w w') : Gr w0 w' := Below.trans h.B (hc.below h.lw)
theorem BSt.gr {w0 : World} {g gr : Nat} {s t : DS} {w w' : World} (h : BSt w0 g gr s t w) (hg : Gr w w') : BSt w0 g gr s t w' :=
  ⟨h.B.trans hg, (h.D.below hg).more hg.size (Nat.le_refl _), h.R.gr hg, h.grl⟩
theorem BSt.prog {w0 : World} {g gr : Nat} {s s' t : DS} {w w' : World} (h : BSt w0 g gr s t w) (hD : Dk w' w0.heap.size w'.heap.size g s') (hc : TChg w0.heap.size jts w w') : BSt w0 g gr s' t w' :=
  ⟨h.to hc, hD, hc.block h.R (by decide), h.grl⟩
theorem BSt.ref {w0 : World} {g gr : Nat} {s t t' : DS} {w w' : World} (h : BSt w0 g gr s t w) (hR : RkS w' gr t') (hc : TChg w0.heap.size rts w w') : BSt w0 g gr s t' w' :=
  ⟨h.to hc, (h.D.tchg2 hc (by decide) (by decide)).more hc.size (Nat.le_refl _), hR, h.grl⟩
/-- both journals -/
structure PSt (w0 : World) (g gr J K : Nat) (s t : DS) (z y : Nat) (w : World) : Prop where
  S : BSt w0 g gr s t w
  Jv : Jn w J g z
  Kv : Rj w K gr y
  Jl : w0.heap.size ≤ J
  Kl : w0.heap.size ≤ K
theorem PSt.gr {w0 : World} {g gr J K : Nat} {s t : DS} {z y : Nat} {w w' : World} (h : PSt w0 g gr J K s t z y w) (hg : Gr w w') : PSt w0 g gr J K s t z y w' :=
  ⟨h.S.gr hg, blk_below h.Jv hg, blk_below h.Kv hg, h.Jl, h.Kl⟩
theorem PSt.prog {w0 : World} {g gr J K : Nat} {s s' t : DS} {z z' y : Nat} {w w' : World} (h : PSt w0 g gr J K s t z y w) (hD : Dk w' w0.heap.size w'.heap.size g s') (hJ : Jn w' J g z') (hc : TChg w0.heap.size jts w w') : PSt w0 g gr J K s' t z' y w' :=
  ⟨h.S.prog hD hc, hJ, hc.block h.Kv (by decide), h.Jl, h.Kl⟩
theorem PSt.ref {w0 : World} {g gr J K : Nat} {s t t' : DS} {z y y' : Nat} {w w' : World} (h : PSt w0 g gr J K s t z y w) (hR : RkS w' gr t') (hK : Rj w' K gr y') (hc : TChg w0.heap.size rts w w') : PSt w0 g gr J K s t' z y' w' :=
  ⟨h.S.ref hR hc, hc.block h.Jv (by decide), hK, h.Jl, h.Kl⟩
/-- a fuse, a crash: the journal's own block is none of it -/
theorem PSt.chg {w0 : World} {g gr J K : Nat} {s s' t : DS} {z y : Nat} {w w' : World} (h : PSt w0 g gr J K s t z y w) (hD : Dk w' w0.heap.size w.heap.size g s') (hc : Chg w0.heap.size g w w') : PSt w0 g gr J K s' t z y w' :=
  h.prog (hD.more (by have := hD.bounds; exact hc.size) (Nat.le_refl _)) (hc.block h.Jv (Jn.ne h.Jv h.S.D) (by decide)) (Chg.tchg h.S.D hc)
theorem PSt.updG {w0 : World} {g gr J K : Nat} {s t t' : DS} {z y : Nat} {w w' : World} (h : PSt w0 g gr J K s t z y w) (hR : RkS w' gr t') (hu : UpdG gr w w') : PSt w0 g gr J K s t' z y w' :=
  h.ref hR (h.Kv.updG (h.Kv.ne h.S.R) hu) (UpdG.tchg h.S.R h.S.grl hu)
theorem BSt.chg {w0 : World} {g gr : Nat} {s s' t : DS} {w w' : World} (h : BSt w0 g gr s t w) (hD : Dk w' w0.heap.size w.heap.size g s') (hc : Chg w0.heap.size g w w') : BSt w0 g gr s' t w' :=
  h.prog (hD.more hc.size (Nat.le_refl _)) (Chg.tchg h.D hc)
theorem BSt.updG {w0 : World} {g gr : Nat} {s t t' : DS} {w w' : World} (h : BSt w0 g gr s t w) (hR : RkS w' gr t') (hu : UpdG gr w w') : BSt w0 g gr s t' w' :=
  h.ref hR (UpdG.tchg h.R h.grl hu)
/-- an Add of any note -/
def adG (s : DS) (n : Nt) : Int × DS := if goodN n = true then adS s (frameB (encN n)) else (12, s)
def adGZ (s : DS) (n : Nt) (z : Nat) : Nat := if goodN n = true then adZ s (frameB (encN n)) z else z
def swG (s : DS) (L : List Nt) : Int × DS := if L.all goodN = true then s.swap (framesB L) else (12, s)
def swGZ (s : DS) (L : List Nt) (z : Nat) : Nat := if L.all goodN = true then swZ s (framesB L) z else z
theorem add_all {w0 : World} {g gr J K : Nat} {s t : DS} {z y : Nat} {w : World} (h : PSt w0 g gr J K s t z y w) (n : Nt) (v : Value) (hn : NtV n v w) (hz : z ≤ 262144) :
    Calls Try.prog 39 #[.pointer (some ⟨J, 0, none⟩), v] w fun e w' => e = .returned (.int .i64 (adG s n).1) ∧ PSt w0 g gr J K (adG s n).2 t (adGZ s n z) y w' ∧ TChg w0.heap.size bts w w' := by
  unfold adG adGZ
  cases hg : goodN n with
  | true =>
    rw [if_pos rfl, if_pos rfl]
    refine (add_any _ _ g J s z n v w h.S.D h.Jv h.Jl hn hg hz).mono ?_
    rintro e w' ⟨he, hD, hJ, ht⟩
    exact ⟨he, h.prog hD hJ ht, ht.jb⟩
  | false =>
    rw [if_neg (by simp), if_neg (by simp)]
    refine (add_bad J n v w hn hg).mono ?_
    rintro e w' ⟨he, hg⟩
    exact ⟨he, h.gr hg, TChg.of_below hg⟩
theorem radd_all {w0 : World} {g gr J K : Nat} {s t : DS} {z y : Nat} {w : World} (h : PSt w0 g gr J K s t z y w) (hok : t.Ok) (n : Nt) (v : Value) (hn : NtV n v w) (hz : y ≤ 262144) :
    Calls Try.prog 40 #[.pointer (some ⟨K, 0, none⟩), v] w fun e w' => e = .returned (.int .i64 (adG t n).1) ∧ PSt w0 g gr J K s (adG t n).2 z (adGZ t n y) w' ∧ TChg w0.heap.size bts w w' := by
  unfold adG adGZ
  cases hg : goodN n with
  | true =>
    rw [if_pos rfl, if_pos rfl]
    refine (radd_any K gr t hok y n v w h.S.R h.Kv hn hg hz).mono ?_
    rintro e w' ⟨he, hD, hJ, hu⟩
    have ht := Upd.sj_tchg h.S.R h.Kv h.S.grl h.Kl hu
    exact ⟨he, h.ref hD hJ ht, ht.rb⟩
  | false =>
    rw [if_neg (by simp), if_neg (by simp)]
    refine (radd_bad K gr y n v w hn hg).mono ?_
    rintro e w' ⟨he, hg⟩
    exact ⟨he, h.gr hg, TChg.of_below hg⟩
theorem all_good {L : List Nt} (h : L.all goodN = true) : ∀ n ∈ L, goodN n = true := List.all_eq_true.mp h
theorem not_all_good {L : List Nt} (h : L.all goodN = false) : ∃ n ∈ L, goodN n = false := by
  rw [List.all_eq_false] at h
  obtain ⟨n, hn, h⟩ := h
  exact ⟨n, hn, by simpa using h⟩
theorem swap_all {w0 : World} {g gr J K : Nat} {s t : DS} {z y : Nat} {w : World} (h : PSt w0 g gr J K s t z y w) (L : List Nt) (v : Value) (hn : NsV L v w) (hL : L.length ≤ 100) :
    Calls Try.prog 37 #[.pointer (some ⟨J, 0, none⟩), v] w fun e w' => e = .returned (.int .i64 (swG s L).1) ∧ PSt w0 g gr J K (swG s L).2 t (swGZ s L z) y w' ∧ TChg w0.heap.size bts w w' := by
  unfold swG swGZ
  cases hg : L.all goodN with
  | true =>
    rw [if_pos rfl, if_pos rfl]
    refine (jswap_any _ _ g J s z L v (all_good hg) hL w h.S.D h.Jv h.Jl hn).mono ?_
    rintro e w' ⟨he, hD, hJ, ht⟩
    exact ⟨he, h.prog hD hJ ht, ht.jb⟩
  | false =>
    rw [if_neg (by simp), if_neg (by simp)]
    refine (jswap_bad J L v (not_all_good hg) hL w hn).mono ?_
    rintro e w' ⟨he, hg⟩
    exact ⟨he, h.gr hg, TChg.of_below hg⟩
theorem rswap_all {w0 : World} {g gr J K : Nat} {s t : DS} {z y : Nat} {w : World} (h : PSt w0 g gr J K s t z y w) (hok : t.Ok) (L : List Nt) (v : Value) (hn : NsV L v w) (hL : L.length ≤ 100) :
    Calls Try.prog 38 #[.pointer (some ⟨K, 0, none⟩), v] w fun e w' => e = .returned (.int .i64 (swG t L).1) ∧ PSt w0 g gr J K s (swG t L).2 z (swGZ t L y) w' ∧ TChg w0.heap.size bts w w' := by
  unfold swG swGZ
  cases hg : L.all goodN with
  | true =>
    rw [if_pos rfl, if_pos rfl]
    refine (rjswap_any K gr t hok y L v (all_good hg) hL w h.S.R h.Kv hn).mono ?_
    rintro e w' ⟨he, hD, hJ, hu⟩
    have ht := Upd.sj_tchg h.S.R h.Kv h.S.grl h.Kl hu
    exact ⟨he, h.ref hD hJ ht, ht.rb⟩
  | false =>
    rw [if_neg (by simp), if_neg (by simp)]
    refine (rjswap_bad K L v (not_all_good hg) hL w hn).mono ?_
    rintro e w' ⟨he, hg⟩
    exact ⟨he, h.gr hg, TChg.of_below hg⟩
/-- the journal's size is no more than the disk has -/
theorem adG_z {s : DS} {z : Nat} (n : Nt) (hz : z ≤ s.c.length) : adGZ s n z ≤ (adG s n).2.c.length := by
  unfold adG adGZ
  by_cases hg : goodN n = true
  · rw [if_pos hg, if_pos hg]
    unfold adZ adS DS.append DS.sync
    have hc := s.op_c
    split
    · simp; exact hz
    · rename_i hov
      cases hb : s.op.1 with
      | false => simp; exact hz
      | true =>
        simp
        have hc2 := DS.op_c { s.op.2 with c := s.c ++ frameB (encN n) }
        split <;> simp_all <;> omega
  · rw [if_neg hg, if_neg hg]
    exact hz
theorem swG_z {s : DS} {z : Nat} (L : List Nt) (hz : z ≤ s.c.length) : swGZ s L z ≤ (swG s L).2.c.length := by
  unfold swG swGZ
  by_cases hg : L.all goodN = true
  · rw [if_pos hg, if_pos hg]
    unfold swZ DS.swap
    split
    · simp; exact hz
    · cases hb : s.op.1 with
      | false => simp; exact hz
      | true => simp
  · rw [if_neg hg, if_neg hg]
    exact hz
theorem opS_z {s : DS} (h : (opS s).1 = 0) : (scanN s.c).2 ≤ (opS s).2.c.length := by
  have hle := scan_le s.c
  unfold opS at h ⊢
  split
  · rename_i hlt
    rw [if_pos hlt] at h
    unfold DS.swap at h ⊢
    split
    · rename_i hov
      rw [if_pos hov] at h
      cases h
    · rename_i hov
      rw [if_neg hov] at h
      cases hb : s.op.1 with
      | false => rw [hb] at h; cases h
      | true => simp; omega
  · exact hle
theorem opS_free {s : DS} (hok : s.Ok) (h : s.fused = false) : (opS s).1 = 0 := by
  have hle := scan_le s.c
  have hlen := hok.len
  unfold opS DS.swap DS.op
  split
  · rw [if_neg (by rw [List.length_take]; omega), h]
    simp
  · rfl
/-- the law's list: no more than twelve -/
theorem take12 (L : List Nt) : (L.take 12).length ≤ 100 := by rw [List.length_take]; omega
end Go.Proofs.Ytgdbbjijneidaaa
