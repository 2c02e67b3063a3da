/- The laws of dsk: DskPlays, the disk beside its reference. -/
import Derived.Test.YtppclmidnomkjaaDskLaw4
import Derived.Test.YtppclmidnomkjaaOpenActs
namespace Go.Proofs.Ytppclmidnomkjaa
set_option linter.unusedVariables false
set_option linter.unusedSimpArgs false
open Go Go.RowKit

theorem Upd.drewN' {S : Nat → Prop} (w : World) (n : Nat) : Upd S w (w.drewN n) := Upd.drewN w n
set_option maxHeartbeats 4000000 in
set_option maxRecDepth 10000 in
theorem alike_any (w0 : World) (lo g gr : Nat) (s : DS) (w : World) (h : Both w0 w lo g gr s) :
    Calls Try.prog 32 #[.pointer (some ⟨g, 0, none⟩), .pointer (some ⟨gr, 0, none⟩)] w fun e w' => e = .returned (.bool true) ∧ Both w0 w' lo g gr s := by
  have hd1 : Hid (Dk w.drew lo w.heap.size g s) := Lib.hid h.dk
  have hr1 : Hid (RkS w.drew gr s) := Lib.hid h.rk
  have hb1 := Lib.hid h.below.drew
  have hgs : gr < w.drew.heap.size := (Array.getElem?_eq_some_iff.1 h.rk).1
  obtain ⟨g0, g1, -, -⟩ := hr1.out.cells
  have hok := Lib.hid h.dk.ok
  have hlow := Lib.hid h.low
  have hgrl := Lib.hid h.grl
  have htl := tl_len s hok.out
  have hlen := hok.out.len
  have hdur := hok.out.dur
  have e1 : s.c.take s.dur ++ s.c.drop s.dur = s.c := List.take_append_drop _ _
  obtain ⟨tk, htk⟩ : ∃ tk, s.c.take s.dur = tk := ⟨_, rfl⟩
  obtain ⟨dr, hdr⟩ : ∃ dr, s.c.drop s.dur = dr := ⟨_, rfl⟩
  have hR : Hid (RkS w.drew gr s = Rk w.drew gr tk dr s.lf) := Lib.hid (by unfold RkS; rw [htk, hdr])
  rw [htk, hdr] at htl e1
  rw [htk] at g0
  rw [hdr] at g1
  have hS : ∀ W, RkS W gr s = Rk W gr tk dr s.lf := fun W => by unfold RkS; rw [htk, hdr]
  rw [hS] at hr1
  replace hS := Lib.hid hS
  have htl1 : tk.length ≤ 262144 := by omega
  have htl2 : dr.length ≤ 262144 := by omega
  have htl3 : (dr.length : Int) = (s.c.length : Int) - s.dur := by omega
  have happ : bs tk ++ bs dr = bs s.c := by rw [bs_app, e1]
  have hsub : (((s.c.length : Int) - s.dur) == (dr.length : Int)) = true := by rw [beq_iff_eq]; omega
  have hcl : ¬ (9223372036854775807 < tk.length + dr.length) := by omega
  clear htk hdr hR
  replace htl := Lib.hid htl
  replace htl3 := Lib.hid htl3
  replace h := Lib.hid h
  go_enter Try.func32, Try.ntmps32
  go_wp2_with fail
  refine wpR_region (Upd (fun _ => False)) 9999 (by kernel_rfl) ?_
  refine wpR_take (i := 0) (v := ?_) (Upd.road _) (some 5) rfl (by kernel_rfl) (by kernel_rfl) (by kernel_rfl) (by kernel_rfl) (by kernel_rfl) (fun _ _ _ h => h) (by kernel_rfl) (fun w' hw' => ?_) ?_
  rotate_left
  · go_simp; with_reducible rfl
  simp only [Act.put, List.setIfInBounds_toArray, List.set_cons_zero, List.set_cons_succ]
  refine wpR_take (i := 3) (v := ?_) (Upd.road _) (some 8) rfl (by kernel_rfl) (by kernel_rfl) (by kernel_rfl) (by kernel_rfl) (by kernel_rfl) (fun _ _ _ h => h) (by kernel_rfl) (fun w' hw' => ?_) ?_
  rotate_left
  · go_simp; with_reducible rfl
  simp only [Act.put, List.setIfInBounds_toArray, List.set_cons_zero, List.set_cons_succ]
  refine wpR_take (i := 4) (v := ?_) (Upd.road _) (some 9) rfl (by kernel_rfl) (by kernel_rfl) (by kernel_rfl) (by kernel_rfl) (by kernel_rfl) (fun _ _ _ h => h) (by kernel_rfl) (fun w' hw' => ?_) ?_
  rotate_left
  · go_simp; with_reducible rfl
  simp only [Act.put, List.setIfInBounds_toArray, List.set_cons_zero, List.set_cons_succ]
  refine wpR_take (i := 5) (v := ?_) (Upd.road _) (some 10) rfl (by kernel_rfl) (by kernel_rfl) (by kernel_rfl) (by kernel_rfl) (by kernel_rfl) (fun _ _ _ h => h) (by kernel_rfl) (fun w' hw' => ?_) ?_
  rotate_left
  · go_simp; with_reducible rfl
  simp only [Act.put, List.setIfInBounds_toArray, List.set_cons_zero, List.set_cons_succ]
  refine wpR_take (i := 6) (v := ?_) (Upd.road _) (some 11) rfl (by kernel_rfl) (by kernel_rfl) (by kernel_rfl) (by kernel_rfl) (by kernel_rfl) (fun _ _ _ h => h) (by kernel_rfl) (fun w' hw' => ?_) ?_
  rotate_left
  · have q := (hw'.cell (p := ⟨gr, 0, none⟩) hgs (fun h => h)).trans g0; go_simp; with_reducible rfl
  simp only [Act.put, List.setIfInBounds_toArray, List.set_cons_zero, List.set_cons_succ]
  refine wpR_take (i := 7) (v := ?_) (Upd.road _) (some 12) rfl (by kernel_rfl) (by kernel_rfl) (by kernel_rfl) (by kernel_rfl) (by kernel_rfl) (fun _ _ _ h => h) (by kernel_rfl) (fun w' hw' => ?_) ?_
  rotate_left
  · go_simp; with_reducible rfl
  simp only [Act.put, List.setIfInBounds_toArray, List.set_cons_zero, List.set_cons_succ]
  refine wpR_take (i := 8) (v := ?_) (Upd.road _) (some 13) rfl (by kernel_rfl) (by kernel_rfl) (by kernel_rfl) (by kernel_rfl) (by kernel_rfl) (fun _ _ _ h => h) (by kernel_rfl) (fun w' hw' => ?_) ?_
  rotate_left
  · go_simp; with_reducible rfl
  simp only [Act.put, List.setIfInBounds_toArray, List.set_cons_zero, List.set_cons_succ]
  refine wpR_take (i := 9) (v := ?_) (Upd.road _) (some 14) rfl (by kernel_rfl) (by kernel_rfl) (by kernel_rfl) (by kernel_rfl) (by kernel_rfl) (fun _ _ _ h => h) (by kernel_rfl) (fun w' hw' => ?_) ?_
  rotate_left
  · go_simp; with_reducible rfl
  simp only [Act.put, List.setIfInBounds_toArray, List.set_cons_zero, List.set_cons_succ]
  refine wpR_take (i := 10) (v := ?_) (Upd.road _) (some 15) rfl (by kernel_rfl) (by kernel_rfl) (by kernel_rfl) (by kernel_rfl) (by kernel_rfl) (fun _ _ _ h => h) (by kernel_rfl) (fun w' hw' => ?_) ?_
  rotate_left
  · have q := (hw'.cell (p := ⟨gr, 1, none⟩) hgs (fun h => h)).trans g1; go_simp; with_reducible rfl
  simp only [Act.put, List.setIfInBounds_toArray, List.set_cons_zero, List.set_cons_succ]
  refine wpR_take (i := 11) (v := ?_) (Upd.road _) (some 16) rfl (by kernel_rfl) (by kernel_rfl) (by kernel_rfl) (by kernel_rfl) (by kernel_rfl) (fun _ _ _ h => h) (by kernel_rfl) (fun w' hw' => ?_) ?_
  rotate_left
  · go_simp; with_reducible rfl
  simp only [Act.put, List.setIfInBounds_toArray, List.set_cons_zero, List.set_cons_succ]
  refine wpR_one 1 rfl (by kernel_rfl) (by kernel_rfl) (fun K hK => ?_)
  go_simp
  refine (bytes_any lo _ g s _ hd1.out).mono ?_
  rintro e w1 ⟨v, rfl, ho, hbb⟩
  obtain ⟨A7, c7, rfl, -, -, hR7, -⟩ := ho.form
  refine hK _ _ (fun _ => Upd.of_below hbb) ?_
  clear hK K
  replace hR7 := Lib.hid hR7
  have hd2 := Lib.hid (hd1.out.below hbb)
  have hr2 := Lib.hid (Rk.below hr1.out hbb hgs)
  have hb2 := Lib.hid (hb1.out.trans (hbb.mono hb1.out.size))
  have hg2 := Lib.hid (blk_lt hr2.out)
  have k1 := (hr2.out.cells).2.1
  clear ho hbb
  try simp only [Act.put, List.setIfInBounds_toArray, List.set_cons_zero, List.set_cons_succ]
  refine wpR_take (i := 2) (v := ?_) (Upd.road _) (some 7) rfl (by kernel_rfl) (by kernel_rfl) (by kernel_rfl) (by kernel_rfl) (by kernel_rfl) (fun _ _ _ h => h) (by kernel_rfl) (fun w' hw' => ?_) ?_
  rotate_left
  · have hcv := run_str_at (n := s.c.length) c7 (hR7.out.upd (fun _ _ _ h => h) hw') rfl; go_simp; with_reducible rfl
  simp only [Act.put, List.setIfInBounds_toArray, List.set_cons_zero, List.set_cons_succ]
  refine wpR_take (i := 12) (v := ?_) (Upd.road _) (some 17) rfl (by kernel_rfl) (by kernel_rfl) (by kernel_rfl) (by kernel_rfl) (by kernel_rfl) (fun _ _ _ h => h) (by kernel_rfl) (fun w' hw' => ?_) ?_
  rotate_left
  · go_simp; with_reducible rfl
  simp only [Act.put, List.setIfInBounds_toArray, List.set_cons_zero, List.set_cons_succ]
  refine wpR_take (i := 13) (v := ?_) (Upd.road _) (some 18) rfl (by kernel_rfl) (by kernel_rfl) (by kernel_rfl) (by kernel_rfl) (by kernel_rfl) (fun _ _ _ h => h) (by kernel_rfl) (fun w' hw' => ?_) ?_
  rotate_left
  · go_simp; with_reducible rfl
  simp only [Act.put, List.setIfInBounds_toArray, List.set_cons_zero, List.set_cons_succ]
  refine wpR_take (i := 14) (v := ?_) (Upd.road _) (some 19) rfl (by kernel_rfl) (by kernel_rfl) (by kernel_rfl) (by kernel_rfl) (by kernel_rfl) (fun _ _ _ h => h) (by kernel_rfl) (fun w' hw' => ?_) ?_
  rotate_left
  · go_simp; with_reducible rfl
  simp only [Act.put, List.setIfInBounds_toArray, List.set_cons_zero, List.set_cons_succ]
  refine wpR_take (i := 16) (v := ?_) (Upd.road _) (some 21) rfl (by kernel_rfl) (by kernel_rfl) (by kernel_rfl) (by kernel_rfl) (by kernel_rfl) (fun _ _ _ h => h) (by kernel_rfl) (fun w' hw' => ?_) ?_
  rotate_left
  · go_simp; with_reducible rfl
  simp only [Act.put, List.setIfInBounds_toArray, List.set_cons_zero, List.set_cons_succ]
  refine wpR_take (i := 17) (v := ?_) (Upd.road _) (some 22) rfl (by kernel_rfl) (by kernel_rfl) (by kernel_rfl) (by kernel_rfl) (by kernel_rfl) (fun _ _ _ h => h) (by kernel_rfl) (fun w' hw' => ?_) ?_
  rotate_left
  · go_simp; with_reducible rfl
  simp only [Act.put, List.setIfInBounds_toArray, List.set_cons_zero, List.set_cons_succ]
  refine wpR_take (i := 18) (v := ?_) (Upd.road _) (some 23) rfl (by kernel_rfl) (by kernel_rfl) (by kernel_rfl) (by kernel_rfl) (by kernel_rfl) (fun _ _ _ h => h) (by kernel_rfl) (fun w' hw' => ?_) ?_
  rotate_left
  · go_simp; with_reducible rfl
  simp only [Act.put, List.setIfInBounds_toArray, List.set_cons_zero, List.set_cons_succ]
  refine wpR_take (i := 19) (v := ?_) (Upd.road _) (some 24) rfl (by kernel_rfl) (by kernel_rfl) (by kernel_rfl) (by kernel_rfl) (by kernel_rfl) (fun _ _ _ h => h) (by kernel_rfl) (fun w' hw' => ?_) ?_
  rotate_left
  · have q := (hw'.cell (p := ⟨gr, 1, none⟩) hg2.out (fun h => h)).trans k1; go_simp; with_reducible rfl
  simp only [Act.put, List.setIfInBounds_toArray, List.set_cons_zero, List.set_cons_succ]
  refine wpR_take (i := 20) (v := ?_) (Upd.road _) (some 25) rfl (by kernel_rfl) (by kernel_rfl) (by kernel_rfl) (by kernel_rfl) (by kernel_rfl) (fun _ _ _ h => h) (by kernel_rfl) (fun w' hw' => ?_) ?_
  rotate_left
  · go_simp; with_reducible rfl
  simp only [Act.put, List.setIfInBounds_toArray, List.set_cons_zero, List.set_cons_succ]
  refine wpR_one 15 rfl (by kernel_rfl) (by kernel_rfl) (fun K hK => ?_)
  go_simp
  refine (loose_any lo _ g s _ hd2.out).mono ?_
  rintro e w2 ⟨rfl, nq, rfl⟩
  refine hK _ _ (fun _ => Upd.drewN _ _) ?_
  clear hK K
  try simp only [Act.put, List.setIfInBounds_toArray, List.set_cons_zero, List.set_cons_succ]
  refine wpR_take (i := 21) (v := ?_) (Upd.road _) (some 26) rfl (by kernel_rfl) (by kernel_rfl) (by kernel_rfl) (by kernel_rfl) (by kernel_rfl) (fun _ _ _ h => h) (by kernel_rfl) (fun w' hw' => ?_) ?_
  rotate_left
  · go_simp; with_reducible rfl
  simp only [Act.put, List.setIfInBounds_toArray, List.set_cons_zero, List.set_cons_succ]
  refine wpR_take (i := 22) (v := ?_) (Upd.road _) (some 27) rfl (by kernel_rfl) (by kernel_rfl) (by kernel_rfl) (by kernel_rfl) (by kernel_rfl) (fun _ _ _ h => h) (by kernel_rfl) (fun w' hw' => ?_) ?_
  rotate_left
  · go_simp; with_reducible rfl
  simp only [Act.put, List.setIfInBounds_toArray, List.set_cons_zero, List.set_cons_succ]
  refine wpR_take (i := 23) (v := ?_) (Upd.road _) (some 4) rfl (by kernel_rfl) (by kernel_rfl) (by kernel_rfl) (by kernel_rfl) (by kernel_rfl) (fun _ _ _ h => h) (by kernel_rfl) (fun w' hw' => ?_) ?_
  rotate_left
  · go_simp; with_reducible rfl
  simp only [Act.put, List.setIfInBounds_toArray, List.set_cons_zero, List.set_cons_succ]
  refine wpR_done (by kernel_rfl) ?_ _
  go_wp2_with fail
  go_ret
  exact ⟨rfl, (hd2.out.more hd2.out.bounds.2.2 (Nat.le_refl _)).drewN nq, by rw [hS.out]; exact hr2.out, ⟨hb2.out.os, hb2.out.tape, hb2.out.output, hb2.out.size, hb2.out.block⟩, hlow.out, hgrl.out⟩
theorem does_any (w0 : World) (lo g gr : Nat) (s : DS) (d : UInt8) (z : Int) (hz : -9223372036854775808 ≤ z ∧ z ≤ 9223372036854775807) (A : Option Addr) (n c : Nat) (l : List UInt8) (hn : l.length = n) (hnm : n ≤ 140737488355328) (w : World) (hra : Rd w lo A l) (h : Both w0 w lo g gr s) :
    Calls Try.prog 31 #[.pointer (some ⟨g, 0, none⟩), .pointer (some ⟨gr, 0, none⟩), .agg #[.int .u8 (U d), .int .i64 z, .slice A n c]] w fun e w' => e = .returned (.bool true) ∧ ∃ s', Both w0 w' lo g gr s' := by
  by_cases h0 : d.toNat % 12 = 0
  · exact does_fuse w0 lo g gr s d z hz h0 A n c l hn hnm w hra h
  by_cases h1 : d.toNat % 12 = 1
  · exact does_crash w0 lo g gr s d z hz h1 A n c l hn hnm w hra h
  by_cases h2 : d.toNat % 12 = 2
  · by_cases h4 : z.tmod 4 = 0
    · exact does_wipe w0 lo g gr s d z hz ⟨h2, h4⟩ A n c l hn hnm w hra h
    · exact does_nowipe w0 lo g gr s d z hz ⟨h2, h4⟩ A n c l hn hnm w hra h
  by_cases h3 : d.toNat % 12 = 3
  · exact does_swap w0 lo g gr s d z hz h3 A n c l hn hnm w hra h
  by_cases h7 : 7 ≤ d.toNat % 12
  · exact does_append w0 lo g gr s d z hz h7 A n c l hn hnm w hra h
  · exact does_sync w0 lo g gr s d z hz (by omega) A n c l hn hnm w hra h
set_option maxHeartbeats 4000000 in
set_option maxRecDepth 10000 in
theorem dskPlays_any (A : Option Addr) (n c : Nat) (hnc : n ≤ c) (hcm : c ≤ maxLen) (f : Nat → ActR) (w : World) (ha : Acts w w.heap.size A n f) (hsm : ∀ i, i < n → (f i).l.length ≤ 140737488355328) :
    Calls Try.prog 9 #[.slice A n c] w fun e w' => e = .returned (.bool true) ∧ Below w.heap.size w w' := by
  replace ha := Lib.hid ha
  replace hsm := Lib.hid hsm
  replace hcm := Lib.hid hcm
  go_enter Try.func9, Try.ntmps9
  go_wp2_with fail
  refine (dnew_any w).mono ?_
  rintro e w1 ⟨rfl, hd1, hb1⟩
  replace hd1 := Lib.hid hd1
  replace hb1 := Lib.hid hb1
  go_wp2_with fail
  refine (rnew_any w1).mono ?_
  rintro e w2 ⟨rfl, hr2, hgr, hb2⟩
  have h2 : Hid (Both w w2 w.heap.size w.heap.size w1.heap.size DS.wipe) := Lib.hid ⟨(hd1.out.below hb2).more (hd1.out.below hb2).bounds.2.2 (Nat.le_refl _), hr2, hb1.out.trans (hb2.mono hb1.out.size), Nat.le_refl _, hb1.out.size⟩
  obtain ⟨gr, hgr⟩ : ∃ gr, w1.heap.size = gr := ⟨_, rfl⟩
  simp only [hgr] at h2 ⊢
  clear hd1 hb1 hr2 hb2
  go_wp2_with fail
  go_loopw [5] (fun i wr => ∃ (k : Nat) (s : DS), i = .int .i64 k ∧ k ≤ n ∧ Hid (Both w wr w.heap.size w.heap.size gr s)) (fun i _ => n - (intOf i).toNat)
  case atStart => exact ⟨0, DS.wipe, rfl, Nat.zero_le _, h2⟩
  case round =>
    obtain ⟨k, s, rfl, hk, h3⟩ := hrel
    clear h2
    by_cases hlt : k < n
    · by_cases h60 : k < 60
      · obtain ⟨b, o, rfl, hbB, hat⟩ := ha.out.1 (by omega)
        obtain ⟨c0, c1, c2⟩ := (hat.below hbB h3.out.below) k hlt
        obtain ⟨hz, -, -, hrd⟩ := ha.out.2 k hlt
        have hsk := hsm.out k hlt
        replace hrd := Lib.hid ((hrd.below h3.out.below).more h3.out.low)
        replace hat := Lib.hid hat
        replace hz := Lib.hid hz
        obtain ⟨q, hq⟩ : ∃ q, f k = q := ⟨_, rfl⟩
        rw [hq] at c0 c1 c2 hz hrd hsk
        obtain ⟨d, z, A2, cc, l⟩ := q
        clear hq
        try simp only at c0 c1 c2 hz hrd hsk
        go_wp2_with fail
        refine (does_any w w.heap.size w.heap.size gr s d z hz.out A2 l.length cc l rfl hsk wr hrd.out h3.out).mono ?_
        rintro e w4 ⟨rfl, s4, h4⟩
        replace h4 := Lib.hid h4
        clear h3 c0 c1 c2 hrd
        go_wp2_with fail
        refine (alike_any w w.heap.size w.heap.size gr s4 w4 h4.out).mono ?_
        rintro e w5 ⟨rfl, h5⟩
        replace h5 := Lib.hid h5
        clear h4
        go_wp2_with fail
        go_roundw
        case rel => exact ⟨k + 1, s4, by go_num, by omega, h5⟩
        case measure => simp [intOf]; omega
      · go_wp2_with fail
        refine (awake11_any wr).mono ?_
        rintro e w9 ⟨rfl, hb9⟩
        replace hb9 := Lib.hid hb9
        go_wp2_with fail
        go_ret
        exact ⟨rfl, h3.out.below.trans (hb9.out.mono h3.out.below.size)⟩
    · obtain rfl : k = n := by omega
      go_wp2_with fail
      refine (awake11_any wr).mono ?_
      rintro e w9 ⟨rfl, hb9⟩
      replace hb9 := Lib.hid hb9
      go_wp2_with fail
      go_ret
      exact ⟨rfl, h3.out.below.trans (hb9.out.mono h3.out.below.size)⟩
end Go.Proofs.Ytppclmidnomkjaa
