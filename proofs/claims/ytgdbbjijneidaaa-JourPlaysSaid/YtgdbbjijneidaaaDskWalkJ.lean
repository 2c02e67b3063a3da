/- The simulated disk: the walks of its methods. -/
import Derived.Test.YtgdbbjijneidaaaDskJ
import Derived.Deep.DeepMust
namespace Go.Proofs.Ytgdbbjijneidaaa
set_option linter.unusedVariables false
set_option linter.unusedSimpArgs false
open Go Go.RowKit

set_option maxRecDepth 10000 in
theorem dnew_any (w : World) :
    Calls Try.prog 26 #[] w fun e w' => e = .returned (.pointer (some ⟨w.heap.size, 0, none⟩)) ∧ Dk w' w.heap.size (w.heap.size + 1) w.heap.size DS.wipe ∧ Below w.heap.size w w' := by
  go_enter Try.func26, Try.ntmps26
  go_wp2
  go_ret
  exact ⟨rfl, ⟨_, heap_alloc_new w _, Nat.le_refl _, Nat.lt_succ_self _, by simp, OB.nil_ _ _, fun k h => (by cases h), ⟨Nat.le_refl _, by decide, by decide, by decide⟩⟩, (Below.refl _ _).alloc (Nat.le_refl _) _⟩
set_option maxRecDepth 10000 in
theorem bytes_any (lo hi g : Nat) (s : DS) (w : World) (h : Dk w lo hi g s) :
    Calls Try.prog 36 #[.pointer (some ⟨g, 0, none⟩)] w fun e w' => ∃ v, e = .returned v ∧ OB w' w.heap.size v s.c ∧ Below w.heap.size w w' := by
  obtain ⟨A, c, -, hc, hm, hr, -, -, h0, -⟩ := h.open_
  have hlen := h.ok.len
  have hcp := Lib.hid (dcopied_any A s.c.length c s.c rfl (by omega) w hr)
  replace hr := Lib.hid hr
  go_enter Try.func36, Try.ntmps36
  go_wp2_with fail
  refine (hcp.out).mono ?_
  rintro e w1 ⟨v, rfl, ho, hb⟩
  go_wp2
  go_ret
  exact ⟨v, rfl, ho, hb⟩
set_option maxRecDepth 10000 in
theorem loose_any (lo hi g : Nat) (s : DS) (w : World) (h : Dk w lo hi g s) :
    Calls Try.prog 42 #[.pointer (some ⟨g, 0, none⟩)] w fun e w' => e = .returned (.int .i64 ((s.c.length : Int) - s.dur)) ∧ ∃ n, w' = w.drewN n := by
  obtain ⟨A, c, -, hc, hm, hr, -, -, h0, h1, -⟩ := h.open_
  have hlen := h.ok.len
  have hdur := h.ok.dur
  replace hr := Lib.hid hr
  replace h := Lib.hid h
  go_enter Try.func42, Try.ntmps42
  go_wp2_with fail
  go_region
  go_wp2
  go_ret
  exact ⟨rfl, 1, rfl⟩
set_option maxRecDepth 10000 in
theorem sync_any (lo hi g : Nat) (s : DS) (w : World) (h : Dk w lo hi g s) :
    Calls Try.prog 65 #[.pointer (some ⟨g, 0, none⟩)] w fun e w' => e = .returned (.int .i64 s.sync.1) ∧ Dk w' lo hi g s.sync.2 ∧ Chg lo g w w' := by
  have hop := Lib.hid (operate_any lo hi g s w h)
  have hS : Hid (s.sync = if s.op.1 = true then (0, { s.op.2 with dur := s.c.length }) else (11, s)) := Lib.hid rfl
  have hg := h.bounds.1
  have hc := Lib.hid s.op_c
  have hF := Lib.hid (fun hh : s.op.1 = false => DS.op_false hh)
  replace h := Lib.hid h
  obtain ⟨ob, hob⟩ : ∃ ob, Hid (s.op.1 = ob) := ⟨_, Lib.hid rfl⟩
  rw [hob.out] at hop hS
  go_enter Try.func65, Try.ntmps65
  go_wp2_with fail
  refine (hop.out).mono ?_
  rintro e w1 ⟨rfl, hd, hup⟩
  have hch : Chg lo g w w1 := Chg.of_upd hup hg
  cases ob with
  | false =>
    have hs2 : Hid (s.sync = (11, s)) := Lib.hid (by rw [hS.out]; rfl)
    have he := hF.out hob.out
    rw [he] at hd
    replace hd := Lib.hid hd
    replace he := Lib.hid he
    go_wp2
    rw [hs2.out]
    go_ret
    exact ⟨rfl, hd.out, hch⟩
  | true =>
    have hs2 : Hid (s.sync = (0, { s.op.2 with dur := s.c.length })) := Lib.hid (by rw [hS.out]; rfl)
    have hset := hd.set1 s.c.length (by rw [hc.out.1]; exact Nat.le_refl _)
    obtain ⟨A, c, -, -, -, -, -, -, h0, h1, -⟩ := hd.open_
    have hf1 := hd.free 1
    rw [hc.out.1] at h0
    replace hset := Lib.hid hset
    replace hd := Lib.hid hd
    replace hch := Lib.hid hch
    clear hop hS
    go_wp2
    rw [hs2.out]
    go_ret
    exact ⟨rfl, hset.out, hch.out.trans (Chg.of_set _ _ _ hg)⟩
theorem hh_grown {w w' : World} {g : Nat} {ob : Option Nat} {cs : Array Value} {T : TypeId} (hh : w.heap[g]? = some (.cells cs T (0, 0))) (hg : w.grownBy w' ob) (hne : ob ≠ some g) : w'.heap[g]? = some (.cells cs T (0, 0)) := by
  obtain ⟨_, _, _, _, hk⟩ := hg
  exact (hk g (blk_lt hh) (fun e => hne e.symm)).trans hh
set_option maxHeartbeats 1000000 in
set_option maxRecDepth 10000 in
theorem append_any (lo hi g : Nat) (s : DS) (A : Option Addr) (n c : Nat) (b : List UInt8) (hn : b.length = n) (hnm : n ≤ 140737488355328) (w : World) (h : Dk w lo hi g s) (hr : Rd w w.heap.size A b) :
    Calls Try.prog 28 #[.pointer (some ⟨g, 0, none⟩), .slice A n c] w fun e w' => e = .returned (.int .i64 (s.append b).1) ∧ Dk w' lo w'.heap.size g (s.append b).2 ∧ Chg lo g w w' := by
  have hop := Lib.hid (operate_any lo hi g s w h)
  have hg := h.bounds.1
  have hhi := h.bounds.2.2
  have hc := Lib.hid s.op_c
  have hok := Lib.hid h.ok
  have hlen := h.ok.len
  have hF := Lib.hid (fun hh : s.op.1 = false => DS.op_false hh)
  obtain ⟨A0, c0, -, -, -, -, -, -, h0, -⟩ := h.open_
  by_cases hov : 262144 < s.c.length + n
  · have hS : Hid (s.append b = (16, s)) := Lib.hid (by unfold DS.append; rw [hn, if_pos hov])
    have hov' : (262144 : Int) < (s.c.length : Int) + n := by omega
    have hm := Lib.hid (h.more hhi (Nat.le_refl _))
    replace h := Lib.hid h
    replace hr := Lib.hid hr
    clear hn
    go_enter Try.func28, Try.ntmps28
    go_wp2
    rw [hS.out]
    go_ret
    exact ⟨rfl, hm.out, Chg.refl _ _ _⟩
  · have hS : Hid (s.append b = if s.op.1 = true then (0, { s.op.2 with c := s.c ++ b }) else (11, s)) := Lib.hid (by unfold DS.append; rw [hn, if_neg hov])
    have hov' : (s.c.length : Int) + n ≤ 262144 := by omega
    obtain ⟨ob, hob⟩ : ∃ ob, Hid (s.op.1 = ob) := ⟨_, Lib.hid rfl⟩
    rw [hob.out] at hop hS
    have hnb := Lib.hid (Rd.ne_dk h hr)
    replace h := Lib.hid h
    replace hr := Lib.hid hr
    replace hn := Lib.hid hn
    clear hov
    go_enter Try.func28, Try.ntmps28
    go_wp2_with fail
    refine (hop.out).mono ?_
    rintro e w1 ⟨rfl, hd, hup⟩
    have hch : Chg lo g w w1 := Chg.of_upd hup hg
    replace hr := Lib.hid (hr.out.upd hnb.out hup)
    replace hch := Lib.hid hch
    clear hop h0
    cases ob with
    | false =>
      have hs2 : Hid (s.append b = (11, s)) := Lib.hid (by rw [hS.out]; rfl)
      rw [hF.out hob.out] at hd
      replace hd := Lib.hid (hd.more hd.bounds.2.2 (Nat.le_refl _))
      clear hup
      go_wp2
      rw [hs2.out]
      go_ret
      exact ⟨rfl, hd.out, hch.out⟩
    | true =>
      have hs2 : Hid (s.append b = (0, { s.op.2 with c := s.c ++ b })) := Lib.hid (by rw [hS.out]; rfl)
      obtain ⟨A1, c1, ho, -, -, -, -, hh, h0, -⟩ := hd.open_
      rw [hc.out.1] at ho h0
      have hne := Lib.hid (ho.ne_blk hh (by decide))
      have hoku := Lib.hid hd.ok
      have hlw : lo ≤ w1.heap.size := by have := hd.bounds; omega
      have hgw : g < w1.heap.size := by have := hd.bounds; omega
      replace hd := Lib.hid hd
      replace hh := Lib.hid hh
      replace ho := Lib.hid ho
      clear hS hup
      go_wp2_with (at_builtin; go_must (refine wpl_append rfl (.tmp 23) (.tmp 24) rfl lo (.slice A1 s.c.length c1) s.c rfl ho.out w1.heap.size A c b (by rw [hn.out]; rfl) hr.out (by rw [hn.out]; omega) hlw ?_); intro v2 w2 hown2 hg2 _; obtain ⟨A2, c2, rfl, -, -, -, -⟩ := hown2.form; rw [List.length_append] at hown2; have hh2 := hh_grown hh.out hg2 hne.out; have q0 := blk_cell hh2 (j := 0) (v := .slice A1 s.op.2.c.length c1) rfl; have q1 := blk_free hh2 0; replace hh2 := Lib.hid hh2; replace hown2 := Lib.hid hown2; replace hg2 := Lib.hid hg2)
      rw [hs2.out]
      go_ret
      refine ⟨rfl, ?_, ?_⟩
      · rw [World.size_setCell]
        exact Dk.set0 (s := s.op.2) hh2.out hg hown2.out ⟨by show s.op.2.dur ≤ (s.c ++ b).length; rw [hc.out.2.1, List.length_append]; have := hok.out.dur; omega, by show (s.c ++ b).length ≤ _; rw [List.length_append, hn.out]; omega, hoku.out.lo, hoku.out.hi⟩
      · exact (hch.out.trans (Chg.of_app ho.out hg2.out)).trans (Chg.of_set _ _ _ hg)
theorem Dk.set01 {w : World} {lo g : Nat} {s s' : DS} {vold v' : Value} (hh : w.heap[g]? = some (.cells #[vold, .int .i64 s.dur, .bool s.fused, .int .i64 s.left] 97 (0, 0))) (hl : lo ≤ g) (ho : OB w lo v' s'.c) (h1 : s'.fused = s.fused) (h2 : s'.left = s.left) (hok : s'.Ok) :
    Dk ((w.setCell ⟨g, 0, none⟩ v').setCell ⟨g, 1, none⟩ (.int .i64 s'.dur)) lo w.heap.size g s' := by
  have hb := blk_set (blk_set hh 0 v') 1 (.int .i64 s'.dur)
  refine ⟨v', ?_, hl, blk_lt hh, by simp [World.setCell], (ho.set_other 0 _ (ho.ne_blk hh (by decide))).set_other 1 _ (ho.ne_blk hh (by decide)), fun k hk => (ho.lt k hk).2, hok⟩
  rw [h1, h2]
  exact hb
set_option maxHeartbeats 1000000 in
set_option maxRecDepth 10000 in
theorem swap_any (lo hi g : Nat) (s : DS) (A : Option Addr) (n c : Nat) (b : List UInt8) (hn : b.length = n) (hnm : n ≤ 140737488355328) (w : World) (h : Dk w lo hi g s) (hr : Rd w w.heap.size A b) :
    Calls Try.prog 61 #[.pointer (some ⟨g, 0, none⟩), .slice A n c] w fun e w' => e = .returned (.int .i64 (s.swap b).1) ∧ Dk w' lo w'.heap.size g (s.swap b).2 ∧ Chg lo g w w' := by
  have hop := Lib.hid (operate_any lo hi g s w h)
  have hg := h.bounds.1
  have hhi := h.bounds.2.2
  have hc := Lib.hid s.op_c
  have hF := Lib.hid (fun hh : s.op.1 = false => DS.op_false hh)
  by_cases hov : 262144 < n
  · have hS : Hid (s.swap b = (16, s)) := Lib.hid (by unfold DS.swap; rw [hn, if_pos hov])
    have hov' : (262144 : Int) < n := by omega
    have hm := Lib.hid (h.more hhi (Nat.le_refl _))
    replace h := Lib.hid h
    replace hr := Lib.hid hr
    clear hn
    go_enter Try.func61, Try.ntmps61
    go_wp2
    rw [hS.out]
    go_ret
    exact ⟨rfl, hm.out, Chg.refl _ _ _⟩
  · have hS : Hid (s.swap b = if s.op.1 = true then (0, { s.op.2 with c := b, dur := b.length }) else (11, s)) := Lib.hid (by unfold DS.swap; rw [hn, if_neg hov])
    have hov' : (n : Int) ≤ 262144 := by omega
    obtain ⟨ob, hob⟩ : ∃ ob, Hid (s.op.1 = ob) := ⟨_, Lib.hid rfl⟩
    rw [hob.out] at hop hS
    have hnb := Lib.hid (Rd.ne_dk h hr)
    replace h := Lib.hid h
    replace hr := Lib.hid hr
    replace hn := Lib.hid hn
    clear hov
    go_enter Try.func61, Try.ntmps61
    go_wp2_with fail
    refine (hop.out).mono ?_
    rintro e w1 ⟨rfl, hd, hup⟩
    have hch : Chg lo g w w1 := Chg.of_upd hup hg
    replace hr := Lib.hid (hr.out.upd hnb.out hup)
    replace hch := Lib.hid hch
    clear hop
    cases ob with
    | false =>
      have hs2 : Hid (s.swap b = (11, s)) := Lib.hid (by rw [hS.out]; rfl)
      rw [hF.out hob.out] at hd
      replace hd := Lib.hid (hd.more hd.bounds.2.2 (Nat.le_refl _))
      clear hup
      go_wp2
      rw [hs2.out]
      go_ret
      exact ⟨rfl, hd.out, hch.out⟩
    | true =>
      have hs2 : Hid (s.swap b = (0, { s.op.2 with c := b, dur := b.length })) := Lib.hid (by rw [hS.out]; rfl)
      have hoku := Lib.hid hd.ok
      have hlw : lo ≤ w1.heap.size := by have := hd.bounds; omega
      replace hd := Lib.hid hd
      clear hS hup
      go_wp2_with fail
      refine (dcopied_any A n c b hn.out hnm w1 hr.out).mono ?_
      rintro e w2 ⟨v2, rfl, ho2, hb2⟩
      have hd2 := hd.out.below hb2
      obtain ⟨A2, c2, rfl, -, -, -, -⟩ := ho2.form
      have hz := Lib.hid ho2.lt
      obtain ⟨A1, c1, -, -, -, -, -, hh, h0, h1, -⟩ := hd2.open_
      have q0 := hd2.free 0
      have q1 := hd2.free 1
      have hset := Lib.hid (Dk.set01 hh hg (ho2.more hlw) (s' := { s.op.2 with c := b, dur := b.length }) rfl rfl ⟨Nat.le_refl _, by have := hn.out; show b.length ≤ _; omega, hoku.out.lo, hoku.out.hi⟩)
      replace hb2 := Lib.hid hb2
      replace ho2 := Lib.hid ho2
      replace hd2 := Lib.hid hd2
      replace hh := Lib.hid hh
      rw [hn.out] at hset
      go_wp2
      rw [hs2.out]
      go_ret
      refine ⟨rfl, ?_, ?_⟩
      · rw [World.size_setCell, World.size_setCell]
        rw [hn.out]
        exact hset.out
      · exact ((hch.out.trans (Chg.of_below hb2.out)).trans (Chg.of_set _ _ _ hg)).trans (Chg.of_set _ _ _ hg)
set_option maxRecDepth 10000 in
theorem fuse_any (lo hi g : Nat) (s : DS) (n : Int) (hn : -9223372036854775808 ≤ n ∧ n ≤ 9223372036854775807) (w : World) (h : Dk w lo hi g s) :
    Calls Try.prog 32 #[.pointer (some ⟨g, 0, none⟩), .int .i64 n] w fun e w' => e = .returned (.tuple #[]) ∧ Dk w' lo hi g (s.fuse n) ∧ Chg lo g w w' := by
  obtain ⟨A, c, -, -, -, -, -, -, h0, h1, h2, h3⟩ := h.open_
  have hg := h.bounds.1
  have q2 := h.free 2
  have q3 := h.free 3
  have hset := Lib.hid ((h.set2 true).set3 (max n 0) (by omega))
  have e : Hid (s.fuse n = { { s with fused := true } with left := max n 0 }) := Lib.hid rfl
  replace h := Lib.hid h
  by_cases hn0 : n < 0
  · have hm : max n 0 = 0 := by omega
    rw [hm] at hset e
    go_enter Try.func32, Try.ntmps32
    go_wp2
    rw [e.out]
    go_end0
    exact ⟨rfl, hset.out, (Chg.of_set _ _ _ hg).trans (Chg.of_set _ _ _ hg)⟩
  · have hm : max n 0 = n := by omega
    rw [hm] at hset e
    go_enter Try.func32, Try.ntmps32
    go_wp2
    rw [e.out]
    go_end0
    exact ⟨rfl, hset.out, (Chg.of_set _ _ _ hg).trans (Chg.of_set _ _ _ hg)⟩
theorem Upd.drewN {S : Nat → Prop} (w : World) (n : Nat) : Upd S w (w.drewN n) := ⟨rfl, rfl, rfl, Nat.le_refl _, fun _ _ _ => rfl⟩
theorem DS.kept_int (s : DS) (hok : s.Ok) (keep : Int) : (s.kept keep : Int) = s.dur + min (max keep 0) ((s.c.length : Int) - s.dur) ∧ s.kept keep ≤ s.c.length ∧ s.dur ≤ s.kept keep := by
  unfold DS.kept
  have := hok.dur
  omega
set_option maxHeartbeats 1000000 in
set_option maxRecDepth 10000 in
theorem crash_any (lo hi g : Nat) (s : DS) (keep : Int) (hn : -9223372036854775808 ≤ keep ∧ keep ≤ 9223372036854775807) (w : World) (h : Dk w lo hi g s) :
    Calls Try.prog 34 #[.pointer (some ⟨g, 0, none⟩), .int .i64 keep] w fun e w' => e = .returned (.tuple #[]) ∧ Dk w' lo hi g (s.crash keep) ∧ Chg lo g w w' := by
  obtain ⟨hK, hKl, hKd⟩ := DS.kept_int s h.ok keep
  have hC : Hid (s.crash keep = { s with c := s.c.take (s.kept keep), dur := s.kept keep, fused := false }) := Lib.hid rfl
  generalize s.kept keep = K at *
  obtain ⟨A, c, ho, hc, hm, -, hob, hh, h0, h1, h2, h3⟩ := h.open_
  have hg := h.bounds
  have hok := h.ok
  have hlen := hok.len
  have hdur := hok.dur
  have q0 := h.free 0
  have q1 := h.free 1
  have q2 := h.free 2
  replace hok := Lib.hid hok
  have hd := Lib.hid h.drew
  replace h := Lib.hid h
  replace hh := Lib.hid hh
  replace ho := Lib.hid ho
  replace hob := Lib.hid hob
  unfold maxLen at hm
  have hV : IntKind.i64.wrap ((s.dur : Int) + if (s.c.length : Int) - s.dur < (if keep < 0 then 0 else keep) then (s.c.length : Int) - s.dur else if keep < 0 then 0 else keep) = (K : Int) := by
    rw [IntKind.wrap_i64]
    split <;> split <;> omega
  have hset : Hid (∀ n, Dk ((w.drewN n).setCell ⟨g, 1, none⟩ (.int .i64 K)) lo hi g { s with dur := K }) := Lib.hid (fun n => ((h.out.drewN n).set1 K hKl))
  have hKc : (K : Int) ≤ (c : Int) := by omega
  replace hK := Lib.hid hK
  · go_enter Try.func34, Try.ntmps34
    go_wp2_with fail
    refine wpR_region (Upd (fun _ => False)) 12 (by kernel_rfl) ?_
    refine wpR_take (i := 0) (v := ?_) (Upd.road _) (some 6) rfl (by kernel_rfl) (by kernel_rfl) (by kernel_rfl) (by kernel_rfl) (by kernel_rfl) (fun _ _ _ h => h) (by kernel_rfl) (fun w' hw' => ?_) ?_
    rotate_left
    · go_simp; with_reducible rfl
    simp only [Act.put, List.setIfInBounds_toArray, List.set_cons_zero, List.set_cons_succ]
    refine wpR_take (i := 1) (v := ?_) (Upd.road _) (some 7) rfl (by kernel_rfl) (by kernel_rfl) (by kernel_rfl) (by kernel_rfl) (by kernel_rfl) (fun _ _ _ h => h) (by kernel_rfl) (fun w' hw' => ?_) ?_
    rotate_left
    · go_simp; with_reducible rfl
    simp only [Act.put, List.setIfInBounds_toArray, List.set_cons_zero, List.set_cons_succ]
    refine wpR_take (i := 2) (v := ?_) (Upd.road _) (some 8) rfl (by kernel_rfl) (by kernel_rfl) (by kernel_rfl) (by kernel_rfl) (by kernel_rfl) (fun _ _ _ h => h) (by kernel_rfl) (fun w' hw' => ?_) ?_
    rotate_left
    · go_simp; with_reducible rfl
    simp only [Act.put, List.setIfInBounds_toArray, List.set_cons_zero, List.set_cons_succ]
    refine wpR_take (i := 3) (v := ?_) (Upd.road _) (some 9) rfl (by kernel_rfl) (by kernel_rfl) (by kernel_rfl) (by kernel_rfl) (by kernel_rfl) (fun _ _ _ h => h) (by kernel_rfl) (fun w' hw' => ?_) ?_
    rotate_left
    · have c1 : w'.cell? ⟨g, 1, none⟩ = some (.int .i64 s.dur) := (hw'.cell (show g < w.drew.heap.size from Nat.lt_of_lt_of_le hg.2.1 hg.2.2) (fun h => h)).trans h1; go_simp; with_reducible rfl
    simp only [Act.put, List.setIfInBounds_toArray, List.set_cons_zero, List.set_cons_succ]
    refine wpR_take (i := 4) (v := ?_) (Upd.road _) (some 10) rfl (by kernel_rfl) (by kernel_rfl) (by kernel_rfl) (by kernel_rfl) (by kernel_rfl) (fun _ _ _ h => h) (by kernel_rfl) (fun w' hw' => ?_) ?_
    rotate_left
    · go_simp; with_reducible rfl
    simp only [Act.put, List.setIfInBounds_toArray, List.set_cons_zero, List.set_cons_succ]
    refine wpR_take (i := 5) (v := ?_) (Upd.road _) (some 11) rfl (by kernel_rfl) (by kernel_rfl) (by kernel_rfl) (by kernel_rfl) (by kernel_rfl) (fun _ _ _ h => h) (by kernel_rfl) (fun w' hw' => ?_) ?_
    rotate_left
    · go_simp; with_reducible rfl
    simp only [Act.put, List.setIfInBounds_toArray, List.set_cons_zero, List.set_cons_succ]
    refine wpR_take (i := 6) (v := ?_) (Upd.road _) (some 12) rfl (by kernel_rfl) (by kernel_rfl) (by kernel_rfl) (by kernel_rfl) (by kernel_rfl) (fun _ _ _ h => h) (by kernel_rfl) (fun w' hw' => ?_) ?_
    rotate_left
    · go_simp; with_reducible rfl
    simp only [Act.put, List.setIfInBounds_toArray, List.set_cons_zero, List.set_cons_succ]
    refine wpR_one 7 rfl (by kernel_rfl) (by kernel_rfl) (fun K hK => ?_)
    go_simp
    refine (loose_any lo hi g s _ hd.out).mono ?_
    rintro e wb ⟨rfl, nq, rfl⟩
    refine hK _ _ (fun _ => Upd.drewN _ _) ?_
    clear hK K
    replace hd := Lib.hid (hd.out.drewN nq)
    have c1 : (w.drew.drewN nq).cell? ⟨g, 1, none⟩ = some (.int .i64 s.dur) := h1
    have f1 : (w.drew.drewN nq).frozen? ⟨g, 1, none⟩ = false := q1
    try simp only [Act.put, List.setIfInBounds_toArray, List.set_cons_zero, List.set_cons_succ]
    refine wpR_take (i := 8) (v := ?_) (Upd.road _) (some 14) rfl (by kernel_rfl) (by kernel_rfl) (by kernel_rfl) (by kernel_rfl) (by kernel_rfl) (fun _ _ _ h => h) (by kernel_rfl) (fun w' hw' => ?_) ?_
    rotate_left
    · go_simp; with_reducible rfl
    simp only [Act.put, List.setIfInBounds_toArray, List.set_cons_zero, List.set_cons_succ]
    refine wpR_take (i := 9) (v := ?_) (Upd.road _) (some 15) rfl (by kernel_rfl) (by kernel_rfl) (by kernel_rfl) (by kernel_rfl) (by kernel_rfl) (fun _ _ _ h => h) (by kernel_rfl) (fun w' hw' => ?_) ?_
    rotate_left
    · go_simp; with_reducible rfl
    simp only [Act.put, List.setIfInBounds_toArray, List.set_cons_zero, List.set_cons_succ]
    refine wpR_one 10 rfl (by kernel_rfl) (by kernel_rfl) (fun K hK => ?_)
    go_simp
    refine hK _ _ (fun _ => Upd.refl _ _) ?_
    clear hK K
    try simp only [Act.put, List.setIfInBounds_toArray, List.set_cons_zero, List.set_cons_succ]
    refine wpR_take (i := 11) (v := ?_) (Upd.road _) (some 17) rfl (by kernel_rfl) (by kernel_rfl) (by kernel_rfl) (by kernel_rfl) (by kernel_rfl) (fun _ _ _ h => h) (by kernel_rfl) (fun w' hw' => ?_) ?_
    rotate_left
    · go_simp; with_reducible rfl
    simp only [Act.put, List.setIfInBounds_toArray, List.set_cons_zero, List.set_cons_succ]
    refine wpR_one 12 rfl (by kernel_rfl) (by kernel_rfl) (fun K hK => ?_)
    go_simp
    refine hK _ _ (fun h => absurd h (by decide)) ?_
    clear hK K
    have hd3 : Hid (Dk ((w.drewN (1 + nq)).setCell ⟨g, 1, none⟩ (.int .i64 K)) lo hi g { s with dur := K }) := Lib.hid (hset.out (1 + nq))
    try simp only [Act.put, List.setIfInBounds_toArray, List.set_cons_zero, List.set_cons_succ]
    refine wpR_done (by kernel_rfl) ?_ _
    clear c1 f1 h0 h1 h2 h3 q0 q1 q2
    go_wp2_with fail
    all_goals
      have hh3 : ((w.drewN (1 + nq)).setCell ⟨g, 1, none⟩ (.int .i64 K)).heap[g]? = some (.cells #[.slice A s.c.length c, .int .i64 K, .bool s.fused, .int .i64 s.left] 97 (0, 0)) := blk_set (w := w.drewN (1 + nq)) hh.out 1 (.int .i64 K)
      have g0 := blk_cell hh3 (j := 0) (v := .slice A s.c.length c) rfl
      have g1 := blk_cell hh3 (j := 1) (v := .int .i64 K) rfl
      have g2 := blk_cell hh3 (j := 2) (v := .bool s.fused) rfl
      have f0 := blk_free hh3 0
      have f2 := blk_free hh3 2
      replace hh3 := Lib.hid hh3
      go_region
      go_wp2
      rw [hC.out]
      go_end0
      refine ⟨rfl, ⟨.slice A K c, blk_set (blk_set hh3.out 0 _) 2 _, hg.1, hg.2.1, by simp [World.setCell]; exact hg.2.2, ?_, fun k hk => hob.out k (by cases A <;> exact hk), ⟨by simp only [List.length_take]; omega, by simp only [List.length_take]; omega, hok.out.lo, hok.out.hi⟩⟩, ?_⟩
      · have hcut : OB (w.drewN (1 + nq)) lo (.slice A K c) (s.c.take K) := ho.out.cut hKl
        have hne := hcut.ne_blk (w := w.drewN (1 + nq)) hh.out (by decide)
        exact ((hcut.set_other 1 _ hne).set_other 0 _ hne).set_other 2 _ hne
      · exact ((Chg.of_upd (Upd.drewN w (1 + nq)) hg.1).trans (Chg.of_set _ _ _ hg.1)).trans ((Chg.of_set _ _ _ hg.1).trans (Chg.of_set _ _ _ hg.1))
/-! ### no disk -/
set_option maxRecDepth 10000 in
theorem append_nil (A : Option Addr) (n c : Nat) (w : World) :
    Calls Try.prog 28 #[.pointer none, .slice A n c] w fun e w' => e = .returned (.int .i64 1) ∧ w = w' := by
  go_enter Try.func28, Try.ntmps28
  go_wp2
  go_ret
  exact ⟨rfl, rfl⟩
theorem swap_nil (A : Option Addr) (n c : Nat) (w : World) :
    Calls Try.prog 61 #[.pointer none, .slice A n c] w fun e w' => e = .returned (.int .i64 1) ∧ w = w' := by
  go_enter Try.func61, Try.ntmps61
  go_wp2
  go_ret
  exact ⟨rfl, rfl⟩
theorem sync_nil (w : World) :
    Calls Try.prog 65 #[.pointer none] w fun e w' => e = .returned (.int .i64 1) ∧ w = w' := by
  go_enter Try.func65, Try.ntmps65
  go_wp2
  go_ret
  exact ⟨rfl, rfl⟩
theorem bytes_nil (w : World) :
    Calls Try.prog 36 #[.pointer none] w fun e w' => e = .returned (.slice none 0 0) ∧ w = w' := by
  go_enter Try.func36, Try.ntmps36
  go_wp2
  go_ret
  exact ⟨rfl, rfl⟩
theorem loose_nil (w : World) :
    Calls Try.prog 42 #[.pointer none] w fun e w' => e = .returned (.int .i64 0) ∧ w = w' := by
  go_enter Try.func42, Try.ntmps42
  go_wp2
  go_ret
  exact ⟨rfl, rfl⟩
theorem fuse_nil (n : Int) (w : World) :
    Calls Try.prog 32 #[.pointer none, .int .i64 n] w fun e w' => e = .returned (.tuple #[]) ∧ w = w' := by
  go_enter Try.func32, Try.ntmps32
  go_wp2
  go_end0
  exact ⟨rfl, rfl⟩
theorem crash_nil (n : Int) (w : World) :
    Calls Try.prog 34 #[.pointer none, .int .i64 n] w fun e w' => e = .returned (.tuple #[]) ∧ w = w' := by
  go_enter Try.func34, Try.ntmps34
  go_wp2
  refine bodyPost_ret (results_none rfl _ _ _) rfl ?_
  exact ⟨rfl, rfl⟩
end Go.Proofs.Ytgdbbjijneidaaa
