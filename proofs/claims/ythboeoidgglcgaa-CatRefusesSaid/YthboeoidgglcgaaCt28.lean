/- cat: a catalog by notes; the law CatRefuses. -/
import Derived.Test.YthboeoidgglcgaaCt26
import Derived.Test.YthboeoidgglcgaaNt16
namespace Go.Proofs.Ythboeoidgglcgaa
set_option linter.unusedVariables false
set_option linter.unusedSimpArgs false
open Go Go.RowKit Go.Maps Go.Sort Go.Shelf Go.Proofs
theorem OND.upd {E : List Ne} {v : Value} {base : Nat} {S : Nat → Prop} {w w' : World} (h : OND E v base w) (hu : Upd S w w') (hS : ∀ k, S k → k < base) : OND E v base w' := by
  have hk : ∀ {m T s n : Nat} {u : Value} {xs : List Value}, w.ownsRow base T s u n xs → w'.ownsRow base T s u n xs := fun {m T s n u xs} hr => row_keep hr (fun k hk => hu.2.2.2.2 k (hr.lt k hk).2 (fun hs => by have := hS k hs; have := (hr.lt k hk).1; omega))
  have hnd : ND E base w' := fun x hx => ⟨row_keep (h.2 x hx).1 (fun k hk => hu.2.2.2.2 k ((h.2 x hx).1.lt k hk).2 (fun hs => by have := hS k hs; have := ((h.2 x hx).1.lt k hk).1; omega)), row_keep (h.2 x hx).2.1 (fun k hk => hu.2.2.2.2 k ((h.2 x hx).2.1.lt k hk).2 (fun hs => by have := hS k hs; have := ((h.2 x hx).2.1.lt k hk).1; omega)), (h.2 x hx).2.2⟩
  exact ⟨⟨row_keep h.1.row (fun k hk => hu.2.2.2.2 k (h.1.row.lt k hk).2 (fun hs => by have := hS k hs; have := (h.1.row.lt k hk).1; omega)), hnd.ntv, h.1.ap⟩, hnd⟩
theorem OND.ns {E : List Ne} {v : Value} {base : Nat} {w : World} (h : OND E v base w) : NsV (E.map (·.n)) v w := h.1.ns
def madeP (L : List Nt) (k : Nat) : CtP := (L.take k).foldl (fun c n => (c.apply n).2) CtP.none_
theorem madeP_zero (L : List Nt) : madeP L 0 = CtP.none_ := rfl
theorem madeP_succ {L : List Nt} {k : Nat} {n : Nt} (h : L[k]? = some n) : madeP L (k + 1) = ((madeP L k).apply n).2 := by
  unfold madeP
  rw [List.take_add_one, h]
  show (L.take k ++ [n]).foldl _ _ = _
  rw [List.foldl_append]
  rfl
theorem madeP_end {L : List Nt} {k m : Nat} (h : L.length ≤ k) (hm : k ≤ m) : madeP L k = madeP L m := by
  unfold madeP
  rw [List.take_of_length_le h, List.take_of_length_le (Nat.le_trans h hm)]
theorem i64_r {z : Int} (h : R64 z) : I64 z := h
theorem FarP.of_low {n : Nt} {A A2 : Option Addr} {c c2 : Nat} {x : CtX} {g : Nat} {w : World} (h : Pls n.places (.slice A2 n.places.length c2) w) (hS : ∀ k, x.S g k → w.heap.size ≤ k) : FarP n (n.agg A c A2 c2) x g := by
  intro hn A' ca' A2' c2' ad he ha hs
  unfold Nt.agg at he
  injection he with he
  have he' : some (Value.slice A2 n.places.length c2) = some (Value.slice A2' n.places.length c2') := congrArg (fun a : Array Value => a[7]?) he
  injection he' with he'
  injection he' with he' _
  subst he'
  obtain ⟨A3, c3, e3, -, -, hh, -⟩ := h
  injection e3 with e3 _
  subst e3
  obtain ⟨b, o, e, hb, -⟩ := hh hn
  rw [ha] at e
  injection e with e
  subst e
  have := hS _ hs
  simp only at this hb
  omega
set_option maxRecDepth 10000 in
set_option maxHeartbeats 2000000 in
theorem made_any (L : List Nt) (v : Value) (most : Nat) (mz : Int) (hmz : mz = (most : Int)) (hm : most ≤ 60) (w : World) (h : NsV L v w) (hok : ∀ n ∈ L, n.Ok) :
    Calls Try.prog 9 #[v, .int .i64 mz] w fun e w' => ∃ g x, e = .returned (.pointer (some ⟨g, 0, none⟩)) ∧ Hid (Ca w' w.heap.size g x (madeP L most) most) ∧ Gr w w' := by
  subst hmz
  obtain ⟨A, c, rfl, hc1, hc2⟩ := h.len
  obtain ⟨n, hn⟩ : ∃ n, L.length = n := ⟨_, rfl⟩
  rw [hn] at h hc1 ⊢
  have hnm : n ≤ 9223372036854775807 := by simp only [maxLen] at hc2; omega
  replace h := Lib.hid h
  replace hok := Lib.hid hok
  replace hn := Lib.hid hn
  clear hc1 hc2
  have hnew := Lib.hid (cnew_any w)
  obtain ⟨B0, hB0⟩ : ∃ B0, w.heap.size = B0 := ⟨_, rfl⟩
  rw [hB0]
  have hgr : Hid (∀ y z, Gr w y → Below B0 y z → Gr w z) := Lib.hid (fun y z h1 h2 => by unfold Gr at h1 ⊢; rw [hB0] at h1 ⊢; exact h1.trans h2)
  have hlow : Hid (∀ y, Gr w y → B0 ≤ y.heap.size) := Lib.hid (fun y hy => by rw [← hB0]; exact Below.size hy)
  rw [hB0] at hnew
  replace hB0 := Lib.hid hB0
  go_enter Try.func9, Try.ntmps9
  go_wp2_with (go_at_call 10; go_must (refine hnew.out.mono ?_); clear hnew; rintro e w1 ⟨g, x1, rfl, hc1, hg1⟩; replace hc1 := Lib.hid hc1; replace hg1 := Lib.hid hg1)
  go_loopw [6] (fun z wr => ∃ (k : Nat) (x : CtX), k ≤ n ∧ k ≤ most ∧ z = .int .i64 k ∧ Hid (Ca wr B0 g x (madeP L k) k) ∧ Hid (Gr w wr)) (fun z _ => (most - intOf z).toNat)
  case atStart => exact ⟨0, x1, Nat.zero_le _, Nat.zero_le _, rfl, hc1, hg1⟩
  case round =>
    obtain ⟨k, x, hk, hk2, rfl, hc, hg⟩ := hrel
    clear hc1 hg1
    by_cases hlt : k < n
    · have ii : (k : Int) < (n : Int) := by omega
      by_cases hlt2 : k < most
      · have ii2 : (k : Int) < (most : Int) := by omega
        obtain ⟨b, o, xn, xA, xc, xA2, xc2, rfl, hq, hxv, hbl, hcx⟩ := h.out.get (i := k) (by rw [hn.out]; exact hlt)
        obtain ⟨q0, q1, q2, q3, q4, q5, q6, q7⟩ := hcx wr hg.out
        have hko := hok.out xn (List.mem_of_getElem? hq)
        have hS : ∀ j, x.S g j → w.heap.size ≤ j := fun j hj => by rw [hB0.out]; exact (hc.out.lt j hj).2
        have hap := Lib.hid (apply_any B0 g k x (madeP L k) wr hc (by omega) (hlow.out _ hg.out) xn (xn.agg xA xc xA2 xc2) hko.key ((hxv.gr hg.out).ntv) (i64_r hko.cart) (FarP.of_low hxv.2 hS))
        unfold Nt.agg at hap
        have hms := Lib.hid (madeP_succ hq)
        replace hS := Lib.hid hS
        replace hq := Lib.hid hq
        replace hko := Lib.hid hko
        replace hxv := Lib.hid hxv
        clear hcx hbl
        obtain ⟨ld, hld⟩ : ∃ m, xn.data.length = m := ⟨_, rfl⟩
        obtain ⟨lp, hlp⟩ : ∃ m, xn.places.length = m := ⟨_, rfl⟩
        rw [hld] at q4 hap
        rw [hlp] at q7 hap
        replace hld := Lib.hid hld
        replace hlp := Lib.hid hlp
        go_wp2_with (go_at_call 12; go_must (refine hap.out.mono ?_); clear hap; rintro e w5 hpo; obtain ⟨he, x5, hc5, hb5⟩ := hpo.low hc.out (hlow.out _ hg.out); subst he; clear hpo; rw [← hms.out] at hc5)
        go_roundw
        case rel => exact ⟨k + 1, x5, by omega, by omega, by go_num, hc5, Lib.hid (hgr.out _ _ hg.out hb5)⟩
        case measure => simp [intOf]; omega
      · obtain rfl : k = most := by omega
        go_wp2_with fail
        go_ret
        exact ⟨g, x, rfl, hc, hg.out⟩
    · obtain rfl : k = n := by omega
      go_wp2_with fail
      go_ret
      have e := madeP_end (L := L) (Nat.le_of_eq hn.out) hk2
      exact ⟨g, x, rfl, Lib.hid (by rw [← e]; exact hc.out.more hk2), hg.out⟩
theorem apply_same {c : CtP} {n : Nt} (h : (c.apply n).1 ≠ 0) : (c.apply n).2 = c := by
  unfold CtP.apply CtP.put CtP.placed CtP.gone CtP.begin_ CtP.retire CtP.turnT at h ⊢
  repeat' (split at h <;> rename_i h1 <;> first | (exact absurd rfl h) | simp only [h1, if_true, if_false] | skip)
  all_goals first | rfl | simp_all
theorem apply_gen {c : CtP} (n : Nt) : c.G ≤ (c.apply n).2.G := by
  unfold CtP.apply CtP.put CtP.placed CtP.gone CtP.begin_ CtP.retire CtP.turnT
  repeat' split
  all_goals first
    | exact Int.le_refl _
    | (rename_i h1 h2; exact Int.le_of_lt ((later_iff c n.gen).mp (by simpa using h2)).1)
    | (rename_i h1 h2; exact Int.le_of_lt ((later_iff c n.gen).mp (by simpa using h1)).1)
    | (rename_i h1 h2 h3; exact Int.le_of_lt ((later_iff c n.gen).mp (by simpa using h1)).1)
end Go.Proofs.Ythboeoidgglcgaa
