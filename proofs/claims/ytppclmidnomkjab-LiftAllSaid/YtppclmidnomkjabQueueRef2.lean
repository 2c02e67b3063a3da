/- The reference queue: Drop. -/
import Derived.Test.YtppclmidnomkjabQueueRef
namespace Go.Proofs.Ytppclmidnomkjab
set_option linter.unusedVariables false
set_option linter.unusedSimpArgs false
open Go Go.RowKit
theorem ARow.mono {w : World} {B B' : Nat} {v : Value} {l : List AskR} (h : ARow w B v l) (hb : B' ≤ B) : ARow w B' v l := by
  rcases h.2 with e | ⟨g, cap, cur, e, h1, h2⟩
  · exact ⟨h.1, .inl e⟩
  · exact ⟨h.1, .inr ⟨g, cap, cur, e, by omega, h2⟩⟩
theorem Rq.cells {w : World} {lo g : Nat} {v : Value} {l : List AskR} {most i : Nat} {q : AskR} (h : Rq w lo g v l most) (hq : l[i]? = some q) : ∃ b c, v = .slice (some ⟨b, 0, none⟩) l.length c ∧ l.length ≤ c ∧ c ≤ maxLen ∧ lo ≤ b ∧ b < w.heap.size ∧ b ≠ g ∧
    w.cell? ⟨b, i * 6, none⟩ = some (.int .i64 q.a) ∧ w.cell? ⟨b, i * 6 + 1, none⟩ = some (.int .i64 q.b) ∧ w.cell? ⟨b, i * 6 + 2, none⟩ = some (.int .i64 q.c) ∧ w.cell? ⟨b, i * 6 + 3, none⟩ = some (.int .i64 q.d) ∧ w.cell? ⟨b, i * 6 + 4, none⟩ = some (.int .i64 q.e) ∧ w.cell? ⟨b, i * 6 + 5, none⟩ = some (.int .i64 q.f) := by
  have hil := (List.getElem?_eq_some_iff.1 hq).1
  obtain ⟨b, c, rfl, h1, h2, h3, h4, ⟨cs, hh⟩, -, h6, -⟩ := row_at h.row (by omega)
  have ha := flatA_at l hq
  refine ⟨b, c, rfl, h1, h2, h3, h4, ?_, h6 _ _ (ha 0 (by omega)), h6 _ _ (ha 1 (by omega)), h6 _ _ (ha 2 (by omega)), h6 _ _ (ha 3 (by omega)), h6 _ _ (ha 4 (by omega)), h6 _ _ (ha 5 (by omega))⟩
  rintro rfl
  have := h.blk
  rw [hh] at this
  injection this with this
  injection this with _ this _
  exact absurd this (by decide)
set_option maxHeartbeats 2000000 in
set_option maxRecDepth 10000 in
theorem rdrop_any (lo g : Nat) (job : Int) (v : Value) (l : List AskR) (most : Nat) (w : World) (h : Rq w lo g v l most) :
    Calls Try.prog 18 #[.pointer (some ⟨g, 0, none⟩), .int .i64 job] w fun e w' => e = .returned (.int .i64 ((l.length : Int) - (fil job l).length)) ∧ ∃ v', Rq w' lo g v' (fil job l) most ∧ (∀ k, v'.ownBlock = some k → w.heap.size ≤ k) ∧ Upd (· = g) w w' := by
  obtain ⟨A, c, rfl, hc1, hc2⟩ := h.form
  have hlen := h.len
  have hmo := h.most
  have hfl := fil_len job l
  obtain ⟨n, hn⟩ : ∃ n, l.length = n := ⟨_, rfl⟩
  rw [hn] at h hc1 hlen hfl ⊢
  obtain ⟨N, hN⟩ : ∃ N, N = w.heap.size := ⟨_, rfl⟩
  have ho : Hid (ARow (w.alloc (.cells #[] 28)) N (.slice (some ⟨w.heap.size, 0, none⟩) 0 0) []) := Lib.hid (by rw [hN]; exact World.ownsRow_made w #[] 0 (Nat.le_refl _) (by simp [maxLen]) rfl)
  have hb0 : Hid (Below N w (w.alloc (.cells #[] 28))) := Lib.hid (by rw [hN]; exact (Below.refl w.heap.size w).alloc (Nat.le_refl _) _)
  have hbel : Hid (∀ wr, Below N w wr → Rq wr lo g (.slice A n c) l most) := Lib.hid (fun wr hb => h.below (by rw [← hN]; exact hb))
  have hlw := h.lw
  have hgw := h.lt
  rw [← hN] at hlw hgw
  have c0 := blk_cell (j := 0) (hbel.out _ hb0.out).blk rfl
  replace hn := Lib.hid hn
  replace hN := Lib.hid hN
  clear h
  go_enter Try.func18, Try.ntmps18
  go_wp2_with fail
  clear c0
  go_loopw [5, 6] (fun out i wr => ∃ k : Nat, i = .int .i64 k ∧ k ≤ n ∧ Hid (ARow wr N out (fil job (l.take k))) ∧ Hid (Below N w wr)) (fun _ i _ => n - (intOf i).toNat)
  case atStart => exact ⟨0, rfl, Nat.zero_le _, ho, hb0⟩
  case round =>
    obtain ⟨k, rfl, hk, hout, hb⟩ := hrel
    clear ho hb0
    have c0 := blk_cell (j := 0) (hbel.out _ hb.out).blk rfl
    by_cases hlt : k < n
    · obtain ⟨q, hq⟩ : ∃ q, l[k]? = some q := ⟨_, List.getElem?_eq_getElem (by rw [hn.out]; exact hlt)⟩
      obtain ⟨b, c', he, -, -, -, -, -, x0, x1, x2, x3, x4, x5⟩ := (hbel.out _ hb.out).cells hq
      have he' : A = some ⟨b, 0, none⟩ := by injection he
      subst he'
      clear he
      have hstep := fil_step job l hq
      clear hq
      by_cases hj : q.a = job
      · rw [if_pos hj] at hstep
        have hd1 : (q.a == job) = true := by rw [beq_iff_eq]; exact hj
        have hd2 : (q.a != job) = false := by rw [bne, hd1]; rfl
        replace hj := Lib.hid hj
        replace hstep := Lib.hid hstep
        go_wp2_with fail
        go_roundw
        case rel => exact ⟨k + 1, by go_num, by omega, Lib.hid (by rw [hstep.out]; exact hout.out), hb⟩
        case measure => simp [intOf]; omega
      · rw [if_neg hj] at hstep
        have hd1 : (q.a == job) = false := beq_eq_false_iff_ne.mpr hj
        have hd2 : (q.a != job) = true := by rw [bne, hd1]; rfl
        replace hj := Lib.hid hj
        replace hstep := Lib.hid hstep
        obtain ⟨cur, hcur⟩ : ∃ cur, fil job (l.take k) = cur := ⟨_, rfl⟩
        have hcl : cur.length ≤ 4096 := by rw [← hcur]; have := fil_len job (l.take k); rw [List.length_take] at this; omega
        rw [hcur] at hout hstep
        replace hcur := Lib.hid hcur
        have hsrc : Hid (Reads (wr.alloc (.cells #[.int .i64 q.a, .int .i64 q.b, .int .i64 q.c, .int .i64 q.d, .int .i64 q.e, .int .i64 q.f] 28)) (wr.heap.size + 1) 6 (some ⟨wr.heap.size, 0, none⟩) 1 (flatA [q])) := Lib.hid (by rw [flatA_one]; exact Reads.lit6 wr q _ _ (Nat.lt_succ_self _))
        have hbs := hb.out.size
        go_wp2_with (at_builtin; refine wpl_append_asks rfl (.tmp 28) (.tmp 36) rfl N u5 cur rfl (hout.out.alloc (.cells #[.int .i64 q.a, .int .i64 q.b, .int .i64 q.c, .int .i64 q.d, .int .i64 q.e, .int .i64 q.f] 28)) (wr.heap.size + 1) (some ⟨wr.heap.size, 0, none⟩) 1 1 [q] rfl rfl hsrc.out (by omega) (by simp; have := hN.out; omega) ?_; intro v6 w6 hr6 hg6 hv6; have hb6 := Lib.hid ((hb.out.alloc (by have := hN.out; omega) (.cells #[.int .i64 q.a, .int .i64 q.b, .int .i64 q.c, .int .i64 q.d, .int .i64 q.e, .int .i64 q.f] 28)).grown hg6 (by simp; have := hN.out; omega) (fun k hk => (hout.out.lt k hk).1)); replace hr6 := Lib.hid hr6; clear hg6 hv6)
        go_roundw
        case rel => exact ⟨k + 1, by go_num, by omega, Lib.hid (by rw [hstep.out]; exact hr6.out), hb6⟩
        case measure => simp [intOf]; omega
    · obtain rfl : k = n := by omega
      have htk : l.take k = l := by rw [← hn.out, List.take_length]
      rw [htk] at hout
      obtain ⟨A', c', rfl, -, -⟩ := row_form hout.out
      have hQ := hbel.out _ hb.out
      have hh := hQ.blk
      have f0 := blk_free hh 0
      have hset := blk_set hh 0 (.slice A' (fil job l).length c')
      have hQ2 : Hid (Rq (wr.setCell ⟨g, 0, none⟩ (.slice A' (fil job l).length c')) lo g (.slice A' (fil job l).length c') (fil job l) most) := Lib.hid ⟨hset, hQ.low, ARow.mono (row_set_other hout.out g 0 _ (row_ne hout.out hh (by decide))) hlw, by omega, hmo, fun q hq => hQ.ok q (List.mem_filter.1 hq).1⟩
      have hu : Hid (Upd (· = g) w (wr.setCell ⟨g, 0, none⟩ (.slice A' (fil job l).length c'))) := Lib.hid ((Upd.of_below (by rw [← hN.out]; exact hb.out)).trans (Upd.of_grown (blk_grown wr g 0 _) rfl))
      have hv : Hid (∀ k, (Value.slice A' (fil job l).length c').ownBlock = some k → w.heap.size ≤ k) := Lib.hid (fun k hk => by rw [← hN.out]; exact (hout.out.lt k hk).1)
      replace htk := Lib.hid htk
      replace hh := Lib.hid hh
      replace hset := Lib.hid hset
      replace hQ := Lib.hid hQ
      go_wp2
      go_ret
      exact ⟨rfl, _, hQ2.out, hv.out, hu.out⟩
end Go.Proofs.Ytppclmidnomkjab
