/- The queue of requests: DeleteFunc and Drop. -/
import Derived.Test.YtppclmidnomkjabQueue4
import Derived.Deep.MidRow
namespace Go.Proofs.Ytppclmidnomkjab
set_option linter.unusedVariables false
set_option linter.unusedSimpArgs false
open Go Go.RowKit
theorem flatA_set (l : List AskR) {m : Nat} (h : m < l.length) (q : AskR) :
    flatA (l.set m q) = ((((((flatA l).set (m * 6) (.int .i64 q.a)).set (m * 6 + 1) (.int .i64 q.b)).set (m * 6 + 2) (.int .i64 q.c)).set (m * 6 + 3) (.int .i64 q.d)).set (m * 6 + 4) (.int .i64 q.e)).set (m * 6 + 5) (.int .i64 q.f) := by
  induction l generalizing m with
  | nil => simp at h
  | cons p l ih =>
    cases m with
    | zero => simp [flatA, AskR.cells]
    | succ m =>
      have hm : m < l.length := by simpa using h
      have hk : ∀ (i : Nat) (x : Value) (ys : List Value), 6 ≤ i → (p.cells ++ ys).set i x = p.cells ++ ys.set (i - 6) x := fun i x ys hi => by
        rw [List.set_append_right _ _ (show p.cells.length ≤ i from hi)]; rfl
      show p.cells ++ flatA (l.set m q) = ((((((p.cells ++ flatA l).set _ _).set _ _).set _ _).set _ _).set _ _).set _ _
      rw [hk _ _ _ (by omega), hk _ _ _ (by omega), hk _ _ _ (by omega), hk _ _ _ (by omega), hk _ _ _ (by omega), hk _ _ _ (by omega), ih hm]
      rw [show (m + 1) * 6 - 6 = m * 6 by omega, show (m + 1) * 6 + 1 - 6 = m * 6 + 1 by omega, show (m + 1) * 6 + 2 - 6 = m * 6 + 2 by omega, show (m + 1) * 6 + 3 - 6 = m * 6 + 3 by omega, show (m + 1) * 6 + 4 - 6 = m * 6 + 4 by omega, show (m + 1) * 6 + 5 - 6 = m * 6 + 5 by omega]
theorem ARow.put {w : World} {lo b n c m : Nat} {cur : List AskR} (h : ARow w lo (.slice (some ⟨b, 0, none⟩) n c) cur) (hm : m < cur.length) (q : AskR) :
    ARow ((((((w.setCell ⟨b, m * 6, none⟩ (.int .i64 q.a)).setCell ⟨b, m * 6 + 1, none⟩ (.int .i64 q.b)).setCell ⟨b, m * 6 + 2, none⟩ (.int .i64 q.c)).setCell ⟨b, m * 6 + 3, none⟩ (.int .i64 q.d)).setCell ⟨b, m * 6 + 4, none⟩ (.int .i64 q.e)).setCell ⟨b, m * 6 + 5, none⟩ (.int .i64 q.f)) lo (.slice (some ⟨b, 0, none⟩) n c) (cur.set m q) ∧ Upd (· = b) w ((((((w.setCell ⟨b, m * 6, none⟩ (.int .i64 q.a)).setCell ⟨b, m * 6 + 1, none⟩ (.int .i64 q.b)).setCell ⟨b, m * 6 + 2, none⟩ (.int .i64 q.c)).setCell ⟨b, m * 6 + 3, none⟩ (.int .i64 q.d)).setCell ⟨b, m * 6 + 4, none⟩ (.int .i64 q.e)).setCell ⟨b, m * 6 + 5, none⟩ (.int .i64 q.f)) := by
  have st : ∀ {w : World} {xs : List Value} (h : w.ownsRow lo 28 6 (.slice (some ⟨b, 0, none⟩) n c) cur.length xs) (j : Nat) (u : Value), (w.setCell ⟨b, j, none⟩ u).ownsRow lo 28 6 (.slice (some ⟨b, 0, none⟩) n c) cur.length (xs.set j u) := fun {w} {xs} h j u => by
    obtain ⟨b', c', e, -, -, -, -, -, -, -, hst⟩ := row_at h (by omega)
    injection e with e _ _
    injection e with e
    injection e with e
    subst e
    exact hst j u
  have up : ∀ (w : World) (j : Nat) (u : Value), Upd (· = b) w (w.setCell ⟨b, j, none⟩ u) := fun w j u => Upd.of_grown (blk_grown w b j u) rfl
  refine ⟨?_, (((((up _ _ _).trans (up _ _ _)).trans (up _ _ _)).trans (up _ _ _)).trans (up _ _ _)).trans (up _ _ _)⟩
  unfold ARow
  rw [List.length_set, flatA_set cur hm q]
  exact st (st (st (st (st (st h _ _) _ _) _ _) _ _) _ _) _ _
theorem ARow.putC {w : World} {lo b n c m : Nat} {cur : List AskR} (h : ARow w lo (.slice (some ⟨b, 0, none⟩) n c) cur) (hm : m < cur.length) (q : AskR) :
    ARow (w.setCells b (m * 6) q.cells) lo (.slice (some ⟨b, 0, none⟩) n c) (cur.set m q) ∧ Upd (· = b) w (w.setCells b (m * 6) q.cells) ∧ w.there b (m * 6) 6 := by
  refine ⟨(ARow.put h hm q).1, (ARow.put h hm q).2, fun j hj => ?_⟩
  obtain ⟨b', c', e, -, -, -, -, -, hfz, hcell, -⟩ := row_at h (by omega)
  injection e with e _ _
  injection e with e
  injection e with e
  subst e
  have hl := flatA_len cur
  have hlt : m * 6 + j < (flatA cur).length := by omega
  rw [hcell _ _ (List.getElem?_eq_getElem hlt)]
  exact ⟨rfl, hfz _⟩
theorem ask_size : (Try.prog.info? 28).map (·.size) = some 6 := by kernel_rfl
theorem fil_step (job : Int) (l : List AskR) {j : Nat} {q : AskR} (h : l[j]? = some q) : fil job (l.take (j + 1)) = if q.a = job then fil job (l.take j) else fil job (l.take j) ++ [q] := by
  unfold fil
  rw [List.take_add_one, h, List.filter_append]
  by_cases hq : q.a = job
  · simp [hq]
  · simp [hq]
theorem fil_none (job : Int) (l : List AskR) (h : ∀ q ∈ l, q.a ≠ job) : fil job l = l := by
  unfold fil
  rw [List.filter_eq_self]
  intro q hq
  simp [h q hq]
theorem fil_first (job : Int) (l : List AskR) {k : Nat} {q : AskR} (hq : l[k]? = some q) (hj : q.a = job) (hall : ∀ j p, j < k → l[j]? = some p → p.a ≠ job) : fil job (l.take (k + 1)) = l.take k := by
  rw [fil_step job l hq, if_pos hj]
  refine fil_none job _ (fun p hp => ?_)
  obtain ⟨i, hi, rfl⟩ := List.getElem_of_mem hp
  rw [List.length_take] at hi
  exact hall i _ (by omega) (by rw [List.getElem_take]; exact List.getElem?_eq_getElem (by omega))
set_option maxHeartbeats 2000000 in
set_option maxRecDepth 10000 in
theorem deletef_asks (lo N : Nat) (job : Int) (A : Option Addr) (n c : Nat) (l : List AskR) (hn : l.length = n) (hnm : n ≤ 1000000) (w : World) (hN : w.heap[N]? = some (.cells #[.int .i64 job] 3 (0, 0))) (h : ARow w lo (.slice A n c) l) :
    Calls Try.prog 42 #[.slice A n c, dropF N] w fun e w' => ∃ v', e = .returned v' ∧ ARow w' lo v' (fil job l) ∧ v'.ownBlock = (Value.slice A n c).ownBlock ∧ Upd (fun k => (Value.slice A n c).ownBlock = some k) w w' := by
  have hNw := blk_lt hN
  have hcN := blk_cell (j := 0) hN rfl
  have hix := Lib.hid (index_asks lo N job A n c l hn hnm w hNw hcN h)
  have hnN := Lib.hid (row_ne h hN (by decide))
  obtain ⟨hcap1, hcap2⟩ : n ≤ c ∧ c ≤ maxLen := by obtain ⟨A', c', e, h1, h2⟩ := row_form h; injection e with _ e1 e; rw [e, e1]; exact ⟨h1, h2⟩
  unfold maxLen at hcap2
  replace h := Lib.hid h
  replace hN := Lib.hid hN
  replace hn := Lib.hid hn
  clear hcN
  unfold dropF at *
  go_enter Try.func42, Try.ntmps42
  go_wp2_with fail
  refine hix.out.mono ?_
  clear hix
  rintro e w1 ⟨hb1, ⟨rfl, hnone⟩ | ⟨k, q, rfl, hq, hqj, hall⟩⟩
  · have h1 := Lib.hid (row_below h.out hb1)
    have hu1 := Lib.hid (Upd.of_below (S := fun k => (Value.slice A n c).ownBlock = some k) hb1)
    have hfl := Lib.hid (fil_none job l hnone)
    clear hnone hb1
    go_wp2_with fail
    go_ret
    exact ⟨_, rfl, by rw [hfl.out]; exact h1.out, rfl, hu1.out⟩
  · have hkn : k < n := by rw [← hn.out]; exact (List.getElem?_eq_some_iff.1 hq).1
    have h1 : ARow w1 lo (.slice A n c) l := row_below h.out hb1
    obtain ⟨b, c', he, -, -, -, hbw, -, -, -, -⟩ := row_at h1 (by rw [hn.out]; omega)
    have he' : A = some ⟨b, 0, none⟩ := by injection he
    subst he'
    clear he
    have hN1 := Lib.hid (blk_below hN.out hb1)
    have hu1 : Hid (Upd (· = b) w w1) := Lib.hid (Upd.of_below hb1)
    have hbN : Hid (N ≠ b) := Lib.hid (fun e => hnN.out (by rw [e]; rfl))
    have hinit : Hid (l.length = n ∧ l.take k = fil job (l.take (k + 1)) ∧ l.drop (k + 1) = l.drop (k + 1)) := Lib.hid ⟨hn.out, (fil_first job l hq hqj hall).symm, rfl⟩
    replace h1 := Lib.hid h1
    clear hb1 hq hqj hall h hN hnN
    have hk1 : ((k : Int) == -1) = false := beq_eq_false_iff_ne.mpr (by omega)
    go_upto_block 0 with (fail)
    clear hk1
    go_cut [5] (fun u wx => ∃ (m : Nat) (cur : List AskR), u = .int .i64 m ∧ m < n ∧ Hid (cur.length = n ∧ cur.take m = fil job l) ∧ Hid (ARow wx lo (.slice (some ⟨b, 0, none⟩) n c) cur) ∧ Hid (Upd (· = b) w wx))
    case first =>
      go_wp2_with fail
      go_loopw [5, 6] (fun u i wr => ∃ (m j : Nat) (cur : List AskR), u = .int .i64 m ∧ i = .int .i64 j ∧ m < j ∧ j ≤ n ∧ Hid (cur.length = n ∧ cur.take m = fil job (l.take j) ∧ cur.drop j = l.drop j) ∧ Hid (ARow wr lo (.slice (some ⟨b, 0, none⟩) n c) cur) ∧ Hid (wr.heap[N]? = some (.cells #[.int .i64 job] 3 (0, 0))) ∧ Hid (Upd (· = b) w wr)) (fun _ i _ => n - (intOf i).toNat)
      case atStart => exact ⟨k, k + 1, l, rfl, by go_num, by omega, by omega, Lib.hid ⟨hinit.out.1, hinit.out.2.1, rfl⟩, h1, hN1, hu1⟩
      case round =>
        obtain ⟨m, j, cur, rfl, rfl, hmj, hjn, hcur, h2, hN2, hu2⟩ := hrel
        clear hinit h1 hN1 hu1
        by_cases hlt : j < n
        · obtain ⟨q, hq⟩ : ∃ q, cur[j]? = some q := ⟨_, List.getElem?_eq_getElem (by rw [hcur.out.1]; exact hlt)⟩
          have hlq : Hid (l[j]? = some q) := Lib.hid (by
            have e := congrArg (fun x => x[0]?) hcur.out.2.2
            simp only [List.getElem?_drop, Nat.add_zero] at e
            rw [← e]; exact hq)
          obtain ⟨p, hp⟩ : ∃ p, cur[m]? = some p := ⟨_, List.getElem?_eq_getElem (by rw [hcur.out.1]; omega)⟩
          obtain ⟨b', c'', he, -, -, -, hbw2, -, hfz, hcell, -⟩ := row_at h2.out (by rw [hcur.out.1]; omega)
          have he' : b' = b := by injection he with he _ _; injection he with he; injection he with he; exact he.symm
          subst he'
          clear he
          have haq := flatA_at cur hq
          have x0 : wr.cell? ⟨b', j * 6, none⟩ = some (.int .i64 q.a) := hcell _ _ (haq 0 (by omega))
          have x1 : wr.cell? ⟨b', j * 6 + 1, none⟩ = some (.int .i64 q.b) := hcell _ _ (haq 1 (by omega))
          have x2 : wr.cell? ⟨b', j * 6 + 2, none⟩ = some (.int .i64 q.c) := hcell _ _ (haq 2 (by omega))
          have x3 : wr.cell? ⟨b', j * 6 + 3, none⟩ = some (.int .i64 q.d) := hcell _ _ (haq 3 (by omega))
          have x4 : wr.cell? ⟨b', j * 6 + 4, none⟩ = some (.int .i64 q.e) := hcell _ _ (haq 4 (by omega))
          have x5 : wr.cell? ⟨b', j * 6 + 5, none⟩ = some (.int .i64 q.f) := hcell _ _ (haq 5 (by omega))
          have hnew := heap_alloc_new wr (.cells #[.int .i64 q.a, .int .i64 q.b, .int .i64 q.c, .int .i64 q.d, .int .i64 q.e, .int .i64 q.f] 28)
          have hbal := (Below.refl wr.heap.size wr).alloc (Nat.le_refl _) (.cells #[.int .i64 q.a, .int .i64 q.b, .int .i64 q.c, .int .i64 q.d, .int .i64 q.e, .int .i64 q.f] 28)
          have hN3 : Hid ((wr.alloc (.cells #[.int .i64 q.a, .int .i64 q.b, .int .i64 q.c, .int .i64 q.d, .int .i64 q.e, .int .i64 q.f] 28)).heap[N]? = some (.cells #[.int .i64 job] 3 (0, 0))) := Lib.hid (blk_alloc hN2.out _)
          have hd1 := drop1_any N job q (wr.alloc (.cells #[.int .i64 q.a, .int .i64 q.b, .int .i64 q.c, .int .i64 q.d, .int .i64 q.e, .int .i64 q.f] 28)) (blk_lt hN3.out) (blk_cell (j := 0) hN3.out rfl)
          have hfst := fil_step job l hlq.out
          unfold AskR.agg at hd1
          obtain ⟨M, hM⟩ : ∃ M, wr.heap.size = M := ⟨_, rfl⟩
          rw [hM] at hnew
          have hbM : b' < M := by omega
          replace hM := Lib.hid hM
          replace hnew := Lib.hid hnew
          replace hbal := Lib.hid hbal
          replace hd1 := Lib.hid hd1
          replace hfst := Lib.hid hfst
          replace hq := Lib.hid hq
          replace hp := Lib.hid hp
          clear hfz hcell haq
          go_wp2_with fail
          refine hd1.out.mono ?_
          by_cases hj : q.a = job
          · rw [show (q.a == job) = true from by rw [beq_iff_eq]; exact hj]
            rintro e w3 ⟨rfl, hb3⟩
            have hb4 := Lib.hid (hbal.out.trans (hb3.mono hbal.out.size))
            have h4 : Hid (ARow w3 lo (.slice (some ⟨b', 0, none⟩) n c) cur) := Lib.hid (row_below h2.out hb4.out)
            have hN4 := Lib.hid (blk_below hN3.out hb3)
            have hu4 := Lib.hid (hu2.out.trans (Upd.of_below hb4.out))
            have hcur4 : Hid (cur.length = n ∧ cur.take m = fil job (l.take (j + 1)) ∧ cur.drop (j + 1) = l.drop (j + 1)) := Lib.hid ⟨hcur.out.1, by rw [hfst.out, if_pos hj]; exact hcur.out.2.1, by
              have e := congrArg (List.drop 1) hcur.out.2.2
              simpa [List.drop_drop] using e⟩
            replace hj := Lib.hid hj
            clear hb3 hd1
            go_wp2_with fail
            go_roundw
            case rel => exact ⟨m, j + 1, cur, rfl, by go_num, by omega, by omega, hcur4, h4, hN4, hu4⟩
            case measure => simp [intOf]; omega
          · rw [show (q.a == job) = false from beq_eq_false_iff_ne.mpr hj]
            rintro e w3 ⟨rfl, hb3⟩
            have hb4 := Lib.hid (hbal.out.trans (hb3.mono hbal.out.size))
            have h4 : Hid (ARow w3 lo (.slice (some ⟨b', 0, none⟩) n c) cur) := Lib.hid (row_below h2.out hb4.out)
            have hN4 := Lib.hid (blk_below hN3.out hb3)
            have hq4 := blk_below hnew.out hb3
            have hu4 := Lib.hid (hu2.out.trans (Upd.of_below hb4.out))
            obtain ⟨h5, hu5, hth5⟩ := ARow.putC h4.out (m := m) (by rw [hcur.out.1]; omega) q
            have hN5 : Hid ((w3.setCells b' (m * 6) q.cells).heap[N]? = some (.cells #[.int .i64 job] 3 (0, 0))) := Lib.hid ((hu5.2.2.2.2 N (blk_lt hN4.out) hbN.out).trans hN4.out)
            have hu5' := Lib.hid (hu4.out.trans hu5)
            have hcur5 : Hid ((cur.set m q).length = n ∧ (cur.set m q).take (m + 1) = fil job (l.take (j + 1)) ∧ (cur.set m q).drop (j + 1) = l.drop (j + 1)) := Lib.hid ⟨by rw [List.length_set]; exact hcur.out.1, by
              rw [hfst.out, if_neg hj, ← hcur.out.2.1, List.take_add_one, List.take_set, List.set_eq_of_length_le (by rw [List.length_take]; omega), List.getElem?_set, if_pos rfl, if_pos (by rw [hcur.out.1]; omega)]
              rfl, by
              have e := congrArg (List.drop 1) hcur.out.2.2
              rw [List.drop_set_of_lt (by omega)]
              simpa [List.drop_drop] using e⟩
            replace hj := Lib.hid hj
            replace h5 := Lib.hid h5
            obtain ⟨hbw3⟩ : Nonempty (b' < w3.heap.size) := ⟨by have := hb4.out.size; omega⟩
            clear hb3 hd1 hu5
            have y0 := blk_cell (j := 0) hq4 rfl
            have y1 := blk_cell (j := 1) hq4 rfl
            have y2 := blk_cell (j := 2) hq4 rfl
            have y3 := blk_cell (j := 3) hq4 rfl
            have y4 := blk_cell (j := 4) hq4 rfl
            have y5 := blk_cell (j := 5) hq4 rfl
            replace hth5 := Lib.hid hth5
            clear x0 x1 x2 x3 x4 x5 hlq hfst hnew hbal hq hp hN2 hN3 hN4 h4 hu4 hu2 h2 hcur hq4 hb4 hbw2 hbw
            go_upto_region 9 with (fail)
            rw [hM.out]
            go_wp2_with (refine wpList_store_mid rfl 28 (.tmp 33) (.tmp 32) rfl b' (m * 6) #[.int .i64 q.a, .int .i64 q.b, .int .i64 q.c, .int .i64 q.d, .int .i64 q.e, .int .i64 q.f] rfl rfl hth5.out ask_size (all_oneCell_toArray q.one) ?_; obtain ⟨w5, hw5⟩ : ∃ w5, w3.setCells b' (m * 6) q.cells = w5 := ⟨_, rfl⟩; rw [show (w3.setCells b' (m * 6) #[Value.int .i64 q.a, .int .i64 q.b, .int .i64 q.c, .int .i64 q.d, .int .i64 q.e, .int .i64 q.f].toList) = w5 from hw5]; rw [hw5] at h5 hN5 hu5'; replace hw5 := Lib.hid hw5)
            go_roundw
            case rel => exact ⟨m + 1, j + 1, cur.set m q, by go_num, by go_num, by omega, by omega, hcur5, h5, hN5, hu5'⟩
            case measure => simp [intOf]; omega
        · obtain rfl : j = n := by omega
          have hcf : Hid (cur.length = j ∧ cur.take m = fil job l) := Lib.hid ⟨hcur.out.1, by rw [hcur.out.2.1, List.take_of_length_le (by rw [hn.out]; exact Nat.le_refl _)]⟩
          go_wp2_with fail
          go_meet
          exact ⟨m, cur, rfl, by omega, hcf, h2, hu2⟩
    case rest =>
      obtain ⟨m, cur, rfl, hmn, hcur, h2, hu2⟩ := hcut
      clear hinit h1 hN1 hu1
      obtain ⟨i0, hi0, hz0, hz1, hz2⟩ := info_parts info_ask
      have h2' : ARow wc lo (.slice (some ⟨b, 0, none⟩) n c) cur := h2.out
      unfold ARow at h2'
      rw [hcur.out.1] at h2'
      have hpre := row_take h2' (m := m) (by omega)
      rw [flatA_take] at hpre
      obtain ⟨vs, hclr⟩ := run_clear_row 37 i0 _ Try.underlying37 hi0 hz0 rfl ask0.one (by decide) hpre (n - m) (c - m) (m * 6) rfl (by omega) (by omega)
      have htl := Lib.hid (row_tail hpre vs (m * 6) (Nat.le_refl _))
      have hmc : ¬ (c = m) := by omega
      have hmc2 : ¬ (m = c) := by omega
      have hmc3 : m ≤ c := by omega
      have hmn3 : m ≤ n := by omega
      have hfl : Hid ((fil job l).length = m ∧ flatA (cur.take m) = flatA (fil job l)) := Lib.hid ⟨by rw [← hcur.out.2, List.length_take, hcur.out.1]; omega, by rw [hcur.out.2]⟩
      replace hpre := Lib.hid hpre
      replace h2' := Lib.hid h2'
      go_wp2
      go_ret
      refine ⟨_, rfl, ?_, rfl, ((hu2.out.trans htl.out.2).mono (fun k hk => by rw [hk]; rfl))⟩
      unfold ARow
      rw [hfl.out.1, ← hfl.out.2]
      exact htl.out.1
end Go.Proofs.Ytppclmidnomkjab
