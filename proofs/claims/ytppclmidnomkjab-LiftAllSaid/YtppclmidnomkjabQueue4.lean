/- The queue of requests: Drop. -/
import Derived.Test.YtppclmidnomkjabQueue3
import Derived.Deep.CutBlock
namespace Go.Proofs.Ytppclmidnomkjab
set_option linter.unusedVariables false
set_option linter.unusedSimpArgs false
open Go Go.RowKit
/-- those that are not of this job -/
def fil (job : Int) (l : List AskR) : List AskR := l.filter (fun q => q.a != job)
/-- the function that Drop hands on -/
def dropF (N : Nat) : Value := .func (.func 32) #[] #[.pointer (some ⟨N, 0, none⟩)]
set_option maxRecDepth 10000 in
theorem drop1_any (N : Nat) (job : Int) (q : AskR) (w : World) (hN : N < w.heap.size) (hc : w.cell? ⟨N, 0, none⟩ = some (.int .i64 job)) :
    Calls Try.prog 32 #[q.agg, .pointer (some ⟨N, 0, none⟩)] w fun e w' => e = .returned (.bool (q.a == job)) ∧ Below w.heap.size w w' := by
  unfold AskR.agg
  have hb := Lib.hid ((Below.refl w.heap.size w).alloc (Nat.le_refl _) (.cells #[.int .i64 q.a, .int .i64 q.b, .int .i64 q.c, .int .i64 q.d, .int .i64 q.e, .int .i64 q.f] 28))
  have hne : ¬ (N = w.heap.size) := by omega
  go_enter Try.func32, Try.ntmps32
  go_wp2
  go_ret
  exact ⟨rfl, hb.out⟩
def IdxPost (job : Int) (l : List AskR) (w : World) (e : Ending) (w' : World) : Prop :=
  Below w.heap.size w w' ∧ ((e = .returned (.int .i64 (-1)) ∧ ∀ q ∈ l, q.a ≠ job) ∨
    ∃ k q, e = .returned (.int .i64 (k : Nat)) ∧ l[k]? = some q ∧ q.a = job ∧ ∀ j p, j < k → l[j]? = some p → p.a ≠ job)
set_option maxHeartbeats 1000000 in
set_option maxRecDepth 10000 in
theorem index_asks (lo N : Nat) (job : Int) (A : Option Addr) (n c : Nat) (l : List AskR) (hn : l.length = n) (hnm : n ≤ 1000000) (w : World) (hN : N < w.heap.size) (hc : w.cell? ⟨N, 0, none⟩ = some (.int .i64 job)) (h : ARow w lo (.slice A n c) l) :
    Calls Try.prog 44 #[.slice A n c, dropF N] w (IdxPost job l w) := by
  replace h := Lib.hid h
  replace hc := Lib.hid hc
  replace hn := Lib.hid hn
  unfold dropF
  go_enter Try.func44, Try.ntmps44
  go_wp2_with fail
  go_loopw [8] (fun i wr => ∃ k : Nat, i = .int .i64 k ∧ k ≤ n ∧ Hid (∀ j p, j < k → l[j]? = some p → p.a ≠ job) ∧ Hid (Below w.heap.size w wr)) (fun i _ => n - (intOf i).toNat)
  case atStart => exact ⟨0, rfl, Nat.zero_le _, Lib.hid (fun j p hj => absurd hj (by omega)), Lib.hid (Below.refl _ _)⟩
  case round =>
    obtain ⟨k, rfl, hk, hall, hb⟩ := hrel
    by_cases hlt : k < n
    · obtain ⟨q, hq⟩ : ∃ q, l[k]? = some q := ⟨_, List.getElem?_eq_getElem (by rw [hn.out]; exact hlt)⟩
      have hrow : ARow wr lo (.slice A n c) l := row_below h.out hb.out
      obtain ⟨b, c', he, -, hcm, -, hbw, -, -, hcell, -⟩ := row_at hrow (by rw [hn.out]; omega)
      have he' : A = some ⟨b, 0, none⟩ := by injection he
      subst he'
      clear he
      have ha := flatA_at l hq
      have x0 : wr.cell? ⟨b, k * 6, none⟩ = some (.int .i64 q.a) := hcell _ _ (ha 0 (by omega))
      have x1 : wr.cell? ⟨b, k * 6 + 1, none⟩ = some (.int .i64 q.b) := hcell _ _ (ha 1 (by omega))
      have x2 : wr.cell? ⟨b, k * 6 + 2, none⟩ = some (.int .i64 q.c) := hcell _ _ (ha 2 (by omega))
      have x3 : wr.cell? ⟨b, k * 6 + 3, none⟩ = some (.int .i64 q.d) := hcell _ _ (ha 3 (by omega))
      have x4 : wr.cell? ⟨b, k * 6 + 4, none⟩ = some (.int .i64 q.e) := hcell _ _ (ha 4 (by omega))
      have x5 : wr.cell? ⟨b, k * 6 + 5, none⟩ = some (.int .i64 q.f) := hcell _ _ (ha 5 (by omega))
      have hcN := Lib.hid ((hb.out.cell (p := ⟨N, 0, none⟩) hN).trans hc.out)
      have hNw := Lib.hid (Nat.lt_of_lt_of_le hN hb.out.size)
      replace hrow := Lib.hid hrow
      clear ha hcell
      have hd1 := drop1_any N job q wr hNw.out hcN.out
      unfold AskR.agg at hd1
      replace hd1 := Lib.hid hd1
      replace hq := Lib.hid hq
      by_cases hj : q.a = job
      · have hjb : Hid ((q.a == job) = true) := Lib.hid (by rw [beq_iff_eq]; exact hj)
        rw [hjb.out] at hd1
        replace hj := Lib.hid hj
        go_wp2_with fail
        refine hd1.out.mono ?_
        rintro e w1 ⟨rfl, hb1⟩
        have hb2 := Lib.hid (hb.out.trans (hb1.mono hb.out.size))
        clear hb1
        go_wp2_with fail
        go_ret
        exact ⟨hb2.out, .inr ⟨k, q, rfl, hq.out, hj.out, hall.out⟩⟩
      · have hjb : Hid ((q.a == job) = false) := Lib.hid (beq_eq_false_iff_ne.mpr hj)
        rw [hjb.out] at hd1
        replace hj := Lib.hid hj
        go_wp2_with fail
        refine hd1.out.mono ?_
        rintro e w1 ⟨rfl, hb1⟩
        have hb2 := Lib.hid (hb.out.trans (hb1.mono hb.out.size))
        clear hb1
        go_wp2_with fail
        go_roundw
        case rel => exact ⟨k + 1, by go_num, by omega, Lib.hid (fun j p hjk hp => by
          by_cases hjk' : j < k
          · exact hall.out j p hjk' hp
          · have : j = k := by omega
            subst this
            rw [hq.out] at hp
            injection hp with hp
            exact hp ▸ hj.out), hb2⟩
        case measure => simp [intOf]; omega
    · obtain rfl : k = n := by omega
      go_wp2_with fail
      go_ret
      refine ⟨hb.out, .inl ⟨rfl, fun q hq => ?_⟩⟩
      obtain ⟨j, hj, rfl⟩ := List.getElem_of_mem hq
      exact hall.out j _ (by rw [← hn.out]; exact hj) (List.getElem?_eq_getElem hj)
end Go.Proofs.Ytppclmidnomkjab
