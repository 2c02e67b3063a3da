/- Lists of notes: whether two are one; those that may be. -/
import Derived.Test.YtgdbbjijneidaaaJr8
import Derived.Test.YtgdbbjijneidaaaJr5b
import Derived.Test.YtgdbbjijneidaaaJr3
namespace Go.Proofs.Ytgdbbjijneidaaa
set_option linter.unusedVariables false
set_option linter.unusedSimpArgs false
open Go Go.RowKit
theorem NsV.len {L : List Nt} {v : Value} {w : World} (h : NsV L v w) : ∃ A c, v = .slice A L.length c ∧ L.length ≤ c ∧ c ≤ maxLen := by
  obtain ⟨E, A, c, rfl, e, h1, h2, -⟩ := h
  exact ⟨A, c, by rw [List.length_map]; exact e, by rw [List.length_map]; exact h1, h2⟩
/-- a note of a slice -/
theorem NsV.get {L : List Nt} {A0 : Option Addr} {n0 c0 : Nat} {w : World} (h : NsV L (.slice A0 n0 c0) w) {i : Nat} (hi : i < L.length) : ∃ (b o : Nat) (xn : Nt) (xA : Option Addr) (xc : Nat) (xA2 : Option Addr) (xc2 : Nat), A0 = some ⟨b, o, none⟩ ∧ L[i]? = some xn ∧ NeV ⟨xn, xA, xc, xA2, xc2⟩ w ∧ b < w.heap.size ∧
    ∀ w', Gr w w' → w'.cell? ⟨b, o + i * 8, none⟩ = some (.int .i64 xn.kind) ∧ w'.cell? ⟨b, o + i * 8 + 1, none⟩ = some (.string (bs xn.key)) ∧ w'.cell? ⟨b, o + i * 8 + 2, none⟩ = some (.int .i64 xn.gen) ∧ w'.cell? ⟨b, o + i * 8 + 3, none⟩ = some (.int .i64 xn.cart) ∧ w'.cell? ⟨b, o + i * 8 + 4, none⟩ = some (.slice xA xn.data.length xc) ∧ w'.cell? ⟨b, o + i * 8 + 5, none⟩ = some (.string (bs xn.sum)) ∧ w'.cell? ⟨b, o + i * 8 + 6, none⟩ = some (.int .i64 xn.size) ∧ w'.cell? ⟨b, o + i * 8 + 7, none⟩ = some (.slice xA2 xn.places.length xc2) := by
  obtain ⟨E, A, c, rfl, e, h1, h2, h3, h4⟩ := h
  injection e with e1 e2 e3
  subst e1
  rw [List.length_map] at hi
  obtain ⟨b, o, rfl, hb, hc⟩ := h3 (by omega)
  have hx := List.getElem?_eq_getElem hi
  obtain ⟨⟨xn, xA, xc, xA2, xc2⟩, hxx⟩ : ∃ x, E[i] = x := ⟨_, rfl⟩
  rw [hxx] at hx
  refine ⟨b, o, xn, xA, xc, xA2, xc2, rfl, by rw [List.getElem?_map, hx]; rfl, h4 _ (List.mem_of_getElem? hx), hb, fun w' hw' => ?_⟩
  have hk := fun j u hu => (cellGr hw' (a := ⟨b, o + i * 8 + j, none⟩) hb).trans (hc i _ hx j u hu)
  exact ⟨hk 0 _ rfl, hk 1 _ rfl, hk 2 _ rfl, hk 3 _ rfl, hk 4 _ rfl, hk 5 _ rfl, hk 6 _ rfl, hk 7 _ rfl⟩
theorem ON.empty (w : World) (base : Nat) (hb : base ≤ w.heap.size) : ON [] (.slice (some ⟨w.heap.size, 0, none⟩) 0 0) base (w.alloc (.cells #[] 25)) := ⟨World.ownsRow_made w #[] 0 hb (by simp [maxLen]) rfl, fun x h => (by cases h), fun x h => (by cases h)⟩
set_option maxHeartbeats 4000000 in
set_option maxRecDepth 20000 in
theorem alike_any (L M : List Nt) (v u : Value) (w : World) (h : NsV L v w) (h2 : NsV M u w) :
    Calls Try.prog 25 #[v, u] w fun e w' => e = .returned (.bool (decide (L = M))) ∧ Gr w w' := by
  obtain ⟨A, c, rfl, hc1, hc2⟩ := h.len
  obtain ⟨B, d, rfl, hd1, hd2⟩ := h2.len
  obtain ⟨n, hn⟩ : ∃ n, L.length = n := ⟨_, rfl⟩
  obtain ⟨m, hm⟩ : ∃ m, M.length = m := ⟨_, rfl⟩
  rw [hn] at h hc1 ⊢
  rw [hm] at h2 hd1 ⊢
  have hnm : n ≤ 9223372036854775807 := by simp only [maxLen] at hc2; omega
  replace h := Lib.hid h
  replace h2 := Lib.hid h2
  obtain ⟨k, hk⟩ : ∃ k, decide (L = M) = k := ⟨_, rfl⟩
  rw [hk]
  replace hk := Lib.hid hk
  clear hc1 hc2 hd1 hd2
  by_cases hne : n = m
  · subst hne
    replace hn := Lib.hid hn
    replace hm := Lib.hid hm
    go_enter Try.func25, Try.ntmps25
    go_wp2_with fail
    go_loopw [5] (fun i wr => ∃ j : Nat, i = .int .i64 j ∧ j ≤ n ∧ Hid (∀ t, t < j → L[t]? = M[t]?) ∧ Hid (Gr w wr)) (fun i _ => n - (intOf i).toNat)
    case atStart => exact ⟨0, rfl, Nat.zero_le _, Lib.hid (fun t ht => absurd ht (by omega)), Lib.hid (Gr.refl _)⟩
    case round =>
      obtain ⟨j, rfl, hj, hall, hb⟩ := hrel
      by_cases hlt : j < n
      · obtain ⟨b, o, xn, xA, xc, xA2, xc2, rfl, hq, hxv, hbl, hcx⟩ := (NsV.gr hb.out h).out.get (i := j) (by rw [hn.out]; exact hlt)
        obtain ⟨b2, o2, yn, yA, yc, yA2, yc2, rfl, hq2, hyv, hbl2, hcy⟩ := (NsV.gr hb.out h2).out.get (i := j) (by rw [hm.out]; exact hlt)
        have hgd : Gr wr wr.drew := (Below.refl _ _).drew
        obtain ⟨wd, hwd⟩ : ∃ wd, wd = wr.drew := ⟨_, rfl⟩
        rw [← hwd] at hgd
        have hcx' : Hid (∀ w', Gr wd w' → w'.cell? ⟨b, o + j * 8, none⟩ = some (.int .i64 xn.kind) ∧ w'.cell? ⟨b, o + j * 8 + 1, none⟩ = some (.string (bs xn.key)) ∧ w'.cell? ⟨b, o + j * 8 + 2, none⟩ = some (.int .i64 xn.gen) ∧ w'.cell? ⟨b, o + j * 8 + 3, none⟩ = some (.int .i64 xn.cart) ∧ w'.cell? ⟨b, o + j * 8 + 4, none⟩ = some (.slice xA xn.data.length xc) ∧ w'.cell? ⟨b, o + j * 8 + 5, none⟩ = some (.string (bs xn.sum)) ∧ w'.cell? ⟨b, o + j * 8 + 6, none⟩ = some (.int .i64 xn.size) ∧ w'.cell? ⟨b, o + j * 8 + 7, none⟩ = some (.slice xA2 xn.places.length xc2)) := Lib.hid (fun w' hw' => hcx w' (hgd.trans hw'))
        have hcy' : Hid (∀ w', Gr wd w' → w'.cell? ⟨b2, o2 + j * 8, none⟩ = some (.int .i64 yn.kind) ∧ w'.cell? ⟨b2, o2 + j * 8 + 1, none⟩ = some (.string (bs yn.key)) ∧ w'.cell? ⟨b2, o2 + j * 8 + 2, none⟩ = some (.int .i64 yn.gen) ∧ w'.cell? ⟨b2, o2 + j * 8 + 3, none⟩ = some (.int .i64 yn.cart) ∧ w'.cell? ⟨b2, o2 + j * 8 + 4, none⟩ = some (.slice yA yn.data.length yc) ∧ w'.cell? ⟨b2, o2 + j * 8 + 5, none⟩ = some (.string (bs yn.sum)) ∧ w'.cell? ⟨b2, o2 + j * 8 + 6, none⟩ = some (.int .i64 yn.size) ∧ w'.cell? ⟨b2, o2 + j * 8 + 7, none⟩ = some (.slice yA2 yn.places.length yc2)) := Lib.hid (fun w' hw' => hcy w' (hgd.trans hw'))
        have hxd : Hid (NtV xn (.agg #[.int .i64 xn.kind, .string (bs xn.key), .int .i64 xn.gen, .int .i64 xn.cart, .slice xA xn.data.length xc, .string (bs xn.sum), .int .i64 xn.size, .slice xA2 xn.places.length xc2]) wd) := Lib.hid (NeV.ntv (hxv.gr hgd))
        have hyd : Hid (NtV yn (.agg #[.int .i64 yn.kind, .string (bs yn.key), .int .i64 yn.gen, .int .i64 yn.cart, .slice yA yn.data.length yc, .string (bs yn.sum), .int .i64 yn.size, .slice yA2 yn.places.length yc2]) wd) := Lib.hid (NeV.ntv (hyv.gr hgd))
        have hb2 : Hid (Gr w wd) := Lib.hid (hb.out.trans hgd)
        clear hcx hcy hxv hyv hgd hbl hbl2
        replace hq := Lib.hid hq
        replace hq2 := Lib.hid hq2
        go_upto_region 6 with (fail)
        by_cases hpq : xn = yn
        · have hsm : sameN xn yn = true := by rw [hpq]; exact decide_eq_true rfl
          have hall2 : Hid (∀ t, t < j + 1 → L[t]? = M[t]?) := Lib.hid (fun t ht => by
            by_cases ht' : t < j
            · exact hall.out t ht'
            · have : t = j := by omega
              subst this
              rw [hq.out, hq2.out, hpq])
          replace hpq := Lib.hid hpq
          replace hsm := Lib.hid hsm
          refine wpR_region (Gr) 9999 (by kernel_rfl) ?_
          (rw [← hwd]; replace hwd := Lib.hid hwd)
          refine wpR_take (i := 0) (v := ?_) (Gr.road) (some 17) rfl (by kernel_rfl) (by kernel_rfl) (by kernel_rfl) (by kernel_rfl) (by kernel_rfl) (fun _ _ _ h => h) (by kernel_rfl) (fun w' hw' => ?_) ?_
          rotate_left
          · go_simp; with_reducible rfl
          simp only [Act.put, List.setIfInBounds_toArray, List.set_cons_zero, List.set_cons_succ]
          refine wpR_take (i := 1) (v := ?_) (Gr.road) (some 18) rfl (by kernel_rfl) (by kernel_rfl) (by kernel_rfl) (by kernel_rfl) (by kernel_rfl) (fun _ _ _ h => h) (by kernel_rfl) (fun w' hw' => ?_) ?_
          rotate_left
          · go_simp; with_reducible rfl
          simp only [Act.put, List.setIfInBounds_toArray, List.set_cons_zero, List.set_cons_succ]
          refine wpR_take (i := 2) (v := ?_) (Gr.road) (some 19) rfl (by kernel_rfl) (by kernel_rfl) (by kernel_rfl) (by kernel_rfl) (by kernel_rfl) (fun _ _ _ h => h) (by kernel_rfl) (fun w' hw' => ?_) ?_
          rotate_left
          · go_simp; with_reducible rfl
          simp only [Act.put, List.setIfInBounds_toArray, List.set_cons_zero, List.set_cons_succ]
          refine wpR_take (i := 3) (v := ?_) (Gr.road) (some 20) rfl (by kernel_rfl) (by kernel_rfl) (by kernel_rfl) (by kernel_rfl) (by kernel_rfl) (fun _ _ _ h => h) (by kernel_rfl) (fun w' hw' => ?_) ?_
          rotate_left
          · obtain ⟨q0, q1, q2, q3, q4, q5, q6, q7⟩ := hcx'.out w' hw'; go_simp; with_reducible rfl
          simp only [Act.put, List.setIfInBounds_toArray, List.set_cons_zero, List.set_cons_succ]
          refine wpR_take (i := 4) (v := ?_) (Gr.road) (some 21) rfl (by kernel_rfl) (by kernel_rfl) (by kernel_rfl) (by kernel_rfl) (by kernel_rfl) (fun _ _ _ h => h) (by kernel_rfl) (fun w' hw' => ?_) ?_
          rotate_left
          · go_simp; with_reducible rfl
          simp only [Act.put, List.setIfInBounds_toArray, List.set_cons_zero, List.set_cons_succ]
          refine wpR_take (i := 5) (v := ?_) (Gr.road) (some 22) rfl (by kernel_rfl) (by kernel_rfl) (by kernel_rfl) (by kernel_rfl) (by kernel_rfl) (fun _ _ _ h => h) (by kernel_rfl) (fun w' hw' => ?_) ?_
          rotate_left
          · go_simp; with_reducible rfl
          simp only [Act.put, List.setIfInBounds_toArray, List.set_cons_zero, List.set_cons_succ]
          refine wpR_take (i := 6) (v := ?_) (Gr.road) (some 23) rfl (by kernel_rfl) (by kernel_rfl) (by kernel_rfl) (by kernel_rfl) (by kernel_rfl) (fun _ _ _ h => h) (by kernel_rfl) (fun w' hw' => ?_) ?_
          rotate_left
          · go_simp; with_reducible rfl
          simp only [Act.put, List.setIfInBounds_toArray, List.set_cons_zero, List.set_cons_succ]
          refine wpR_take (i := 7) (v := ?_) (Gr.road) (some 24) rfl (by kernel_rfl) (by kernel_rfl) (by kernel_rfl) (by kernel_rfl) (by kernel_rfl) (fun _ _ _ h => h) (by kernel_rfl) (fun w' hw' => ?_) ?_
          rotate_left
          · obtain ⟨q0, q1, q2, q3, q4, q5, q6, q7⟩ := hcy'.out w' hw'; go_simp; with_reducible rfl
          simp only [Act.put, List.setIfInBounds_toArray, List.set_cons_zero, List.set_cons_succ]
          refine wpR_one 8 rfl (by kernel_rfl) (by kernel_rfl) (fun K hK => ?_)
          go_simp
          refine (rsame_any xn yn _ _ wd hxd.out hyd.out).mono ?_
          rw [hsm.out]
          rintro e w5 ⟨rfl, hr5⟩
          refine hK _ _ (fun _ => hr5) ?_
          clear hK K
          replace hb2 := Lib.hid (hb2.out.trans hr5)
          clear hr5
          try simp only [Act.put, List.setIfInBounds_toArray, List.set_cons_zero, List.set_cons_succ]
          refine wpR_take (i := 9) (v := ?_) (Gr.road) (some 26) rfl (by kernel_rfl) (by kernel_rfl) (by kernel_rfl) (by kernel_rfl) (by kernel_rfl) (fun _ _ _ h => h) (by kernel_rfl) (fun w' hw' => ?_) ?_
          rotate_left
          · go_simp; with_reducible rfl
          simp only [Act.put, List.setIfInBounds_toArray, List.set_cons_zero, List.set_cons_succ]
          refine wpR_done (by kernel_rfl) ?_ _
          go_wp2_with fail
          go_roundw
          case rel => exact ⟨j + 1, by go_num, by omega, hall2, hb2⟩
          case measure => simp [intOf]; omega
        · have hres : Hid (k = false) := Lib.hid (by
            rw [← hk.out]
            refine decide_eq_false (fun e => hpq ?_)
            rw [e, hq2.out] at hq
            have hq := hq.out
            injection hq with hq
            exact hq.symm)
          have hsm : sameN xn yn = false := decide_eq_false hpq
          replace hpq := Lib.hid hpq
          replace hsm := Lib.hid hsm
          refine wpR_region (Gr) 9999 (by kernel_rfl) ?_
          (rw [← hwd]; replace hwd := Lib.hid hwd)
          refine wpR_take (i := 0) (v := ?_) (Gr.road) (some 17) rfl (by kernel_rfl) (by kernel_rfl) (by kernel_rfl) (by kernel_rfl) (by kernel_rfl) (fun _ _ _ h => h) (by kernel_rfl) (fun w' hw' => ?_) ?_
          rotate_left
          · go_simp; with_reducible rfl
          simp only [Act.put, List.setIfInBounds_toArray, List.set_cons_zero, List.set_cons_succ]
          refine wpR_take (i := 1) (v := ?_) (Gr.road) (some 18) rfl (by kernel_rfl) (by kernel_rfl) (by kernel_rfl) (by kernel_rfl) (by kernel_rfl) (fun _ _ _ h => h) (by kernel_rfl) (fun w' hw' => ?_) ?_
          rotate_left
          · go_simp; with_reducible rfl
          simp only [Act.put, List.setIfInBounds_toArray, List.set_cons_zero, List.set_cons_succ]
          refine wpR_take (i := 2) (v := ?_) (Gr.road) (some 19) rfl (by kernel_rfl) (by kernel_rfl) (by kernel_rfl) (by kernel_rfl) (by kernel_rfl) (fun _ _ _ h => h) (by kernel_rfl) (fun w' hw' => ?_) ?_
          rotate_left
          · go_simp; with_reducible rfl
          simp only [Act.put, List.setIfInBounds_toArray, List.set_cons_zero, List.set_cons_succ]
          refine wpR_take (i := 3) (v := ?_) (Gr.road) (some 20) rfl (by kernel_rfl) (by kernel_rfl) (by kernel_rfl) (by kernel_rfl) (by kernel_rfl) (fun _ _ _ h => h) (by kernel_rfl) (fun w' hw' => ?_) ?_
          rotate_left
          · obtain ⟨q0, q1, q2, q3, q4, q5, q6, q7⟩ := hcx'.out w' hw'; go_simp; with_reducible rfl
          simp only [Act.put, List.setIfInBounds_toArray, List.set_cons_zero, List.set_cons_succ]
          refine wpR_take (i := 4) (v := ?_) (Gr.road) (some 21) rfl (by kernel_rfl) (by kernel_rfl) (by kernel_rfl) (by kernel_rfl) (by kernel_rfl) (fun _ _ _ h => h) (by kernel_rfl) (fun w' hw' => ?_) ?_
          rotate_left
          · go_simp; with_reducible rfl
          simp only [Act.put, List.setIfInBounds_toArray, List.set_cons_zero, List.set_cons_succ]
          refine wpR_take (i := 5) (v := ?_) (Gr.road) (some 22) rfl (by kernel_rfl) (by kernel_rfl) (by kernel_rfl) (by kernel_rfl) (by kernel_rfl) (fun _ _ _ h => h) (by kernel_rfl) (fun w' hw' => ?_) ?_
          rotate_left
          · go_simp; with_reducible rfl
          simp only [Act.put, List.setIfInBounds_toArray, List.set_cons_zero, List.set_cons_succ]
          refine wpR_take (i := 6) (v := ?_) (Gr.road) (some 23) rfl (by kernel_rfl) (by kernel_rfl) (by kernel_rfl) (by kernel_rfl) (by kernel_rfl) (fun _ _ _ h => h) (by kernel_rfl) (fun w' hw' => ?_) ?_
          rotate_left
          · go_simp; with_reducible rfl
          simp only [Act.put, List.setIfInBounds_toArray, List.set_cons_zero, List.set_cons_succ]
          refine wpR_take (i := 7) (v := ?_) (Gr.road) (some 24) rfl (by kernel_rfl) (by kernel_rfl) (by kernel_rfl) (by kernel_rfl) (by kernel_rfl) (fun _ _ _ h => h) (by kernel_rfl) (fun w' hw' => ?_) ?_
          rotate_left
          · obtain ⟨q0, q1, q2, q3, q4, q5, q6, q7⟩ := hcy'.out w' hw'; go_simp; with_reducible rfl
          simp only [Act.put, List.setIfInBounds_toArray, List.set_cons_zero, List.set_cons_succ]
          refine wpR_one 8 rfl (by kernel_rfl) (by kernel_rfl) (fun K hK => ?_)
          go_simp
          refine (rsame_any xn yn _ _ wd hxd.out hyd.out).mono ?_
          rw [hsm.out]
          rintro e w5 ⟨rfl, hr5⟩
          refine hK _ _ (fun _ => hr5) ?_
          clear hK K
          replace hb2 := Lib.hid (hb2.out.trans hr5)
          clear hr5
          try simp only [Act.put, List.setIfInBounds_toArray, List.set_cons_zero, List.set_cons_succ]
          refine wpR_take (i := 9) (v := ?_) (Gr.road) (some 26) rfl (by kernel_rfl) (by kernel_rfl) (by kernel_rfl) (by kernel_rfl) (by kernel_rfl) (fun _ _ _ h => h) (by kernel_rfl) (fun w' hw' => ?_) ?_
          rotate_left
          · go_simp; with_reducible rfl
          simp only [Act.put, List.setIfInBounds_toArray, List.set_cons_zero, List.set_cons_succ]
          refine wpR_done (by kernel_rfl) ?_ _
          go_wp2_with fail
          go_ret
          exact ⟨by first | (rw [hres.out]; rfl) | rw [hres.out], hb2.out⟩
      · obtain rfl : j = n := by omega
        clear hlt
        have hres : Hid (k = true) := Lib.hid (by
          rw [← hk.out]
          refine decide_eq_true (List.ext_getElem? fun t => ?_)
          by_cases ht : t < j
          · exact hall.out t ht
          · rw [List.getElem?_eq_none (by rw [hn.out]; omega), List.getElem?_eq_none (by rw [hm.out]; omega)])
        go_wp2_with fail
        go_ret
        exact ⟨by first | (rw [hres.out]; rfl) | rw [hres.out], hb.out⟩
  · have hres : Hid (k = false) := Lib.hid (by
      rw [← hk.out]
      refine decide_eq_false (fun e => hne ?_)
      rw [← hn, ← hm, e])
    replace hn := Lib.hid hn
    replace hm := Lib.hid hm
    have hne2 : ((n : Int) == m) = false := beq_eq_false_iff_ne.mpr (by omega)
    go_enter Try.func25, Try.ntmps25
    go_wp2_with fail
    go_ret
    exact ⟨by first | (rw [hres.out]; rfl) | rw [hres.out], Gr.refl _⟩
set_option maxHeartbeats 4000000 in
set_option maxRecDepth 20000 in
theorem some_any (L : List Nt) (v : Value) (most : Nat) (hmo : most ≤ 1000) (w : World) (h : NsV L v w) :
    Calls Try.prog 22 #[v, .int .i64 most] w fun e w' => ∃ u E, e = .returned u ∧ E.map (·.n) = (L.take most).filter goodN ∧ ON E u w.heap.size w' ∧ Gr w w' := by
  obtain ⟨A, c, rfl, hc1, hc2⟩ := h.len
  obtain ⟨n, hn⟩ : ∃ n, L.length = n := ⟨_, rfl⟩
  rw [hn] at h hc1 ⊢
  have hnm : n ≤ 9223372036854775807 := by simp only [maxLen] at hc2; omega
  obtain ⟨N, hN⟩ : ∃ N, w.heap.size = N := ⟨_, rfl⟩
  rw [hN]
  have hg0 := Gr.alloc w (.cells #[] 25)
  have ho0 : ON [] (.slice (some ⟨w.heap.size, 0, none⟩) 0 0) N (w.alloc (.cells #[] 25)) := ON.empty w N (by omega)
  obtain ⟨w1, hw1⟩ : ∃ w1, w.alloc (.cells #[] 25) = w1 := ⟨_, rfl⟩
  rw [hw1] at hg0 ho0
  rw [hN] at ho0
  replace h := Lib.hid h
  replace hn := Lib.hid hn
  replace hN := Lib.hid hN
  replace hw1 := Lib.hid hw1
  clear hc1 hc2
  go_enter Try.func22, Try.ntmps22
  go_wp2_with fail
  rw [hN.out, hw1.out]
  clear hw1
  go_loopw [5, 6] (fun ov i wr => ∃ (j : Nat) (E : List Ne) (A1 : Option Addr) (m1 c1 : Nat), i = .int .i64 j ∧ ov = .slice A1 m1 c1 ∧ j ≤ n ∧ j ≤ most ∧ E.length ≤ j ∧ Hid (E.map (·.n) = (L.take j).filter goodN) ∧ Hid (ON E (.slice A1 m1 c1) N wr) ∧ Hid (Gr w wr)) (fun _ i _ => n - (intOf i).toNat)
  case atStart => exact ⟨0, [], _, _, _, rfl, rfl, Nat.zero_le _, Nat.zero_le _, Nat.zero_le _, Lib.hid rfl, Lib.hid ho0, Lib.hid hg0⟩
  case round =>
    clear ho0 hg0
    obtain ⟨j, E, A1, m1, c1, rfl, rfl, hj, hjm, hEj, hE, ho, hg⟩ := hrel
    by_cases hlt : j < n ∧ j < most
    · obtain ⟨h1, h2⟩ := hlt
      obtain ⟨b, o, xn, xA, xc, xA2, xc2, rfl, hq, hxv, hbl, hcx⟩ := h.out.get (i := j) (by rw [hn.out]; exact h1)
      have hcx' : Hid (∀ w', Gr w w' → w'.cell? ⟨b, o + j * 8, none⟩ = some (.int .i64 xn.kind) ∧ w'.cell? ⟨b, o + j * 8 + 1, none⟩ = some (.string (bs xn.key)) ∧ w'.cell? ⟨b, o + j * 8 + 2, none⟩ = some (.int .i64 xn.gen) ∧ w'.cell? ⟨b, o + j * 8 + 3, none⟩ = some (.int .i64 xn.cart) ∧ w'.cell? ⟨b, o + j * 8 + 4, none⟩ = some (.slice xA xn.data.length xc) ∧ w'.cell? ⟨b, o + j * 8 + 5, none⟩ = some (.string (bs xn.sum)) ∧ w'.cell? ⟨b, o + j * 8 + 6, none⟩ = some (.int .i64 xn.size) ∧ w'.cell? ⟨b, o + j * 8 + 7, none⟩ = some (.slice xA2 xn.places.length xc2)) := Lib.hid hcx
      have i1 : (j : Int) < (n : Int) := by omega
      have i2 : (j : Int) < (most : Int) := by omega
      have hrg := Lib.hid (rgood_any xn _ wr (hxv.gr hg.out).ntv)
      unfold Ne.agg Nt.agg at hrg
      simp only at hrg
      have hstep : (L.take (j + 1)).filter goodN = (L.take j).filter goodN ++ (if goodN xn = true then [xn] else []) := by
        rw [List.take_add_one, hq, List.filter_append]
        simp only [Option.toList_some, List.filter_cons, List.filter_nil]
      replace hstep := Lib.hid hstep
      replace hq := Lib.hid hq
      have hNs : N ≤ wr.heap.size := by have := hg.out.size; rw [hN.out] at this; exact this
      clear hcx hbl
      obtain ⟨x0, x1, x2, x3, x4, x5, x6, x7⟩ := hcx'.out wr hg.out
      go_wp2_with fail
      refine hrg.out.mono ?_
      clear hrg x0 x1 x2 x3 x4 x5 x6 x7
      cases hgd : goodN xn with
      | false =>
        rintro e w2 ⟨rfl, hg2⟩
        replace ho := ON.gr hg2 ho
        replace hg := Lib.hid (hg.out.trans hg2)
        have hE2 : Hid (E.map (·.n) = (L.take (j + 1)).filter goodN) := Lib.hid (by rw [hstep.out, hgd, ← hE.out]; simp)
        replace hgd := Lib.hid hgd
        clear hg2
        go_wp2_with fail
        go_roundw
        case rel => exact ⟨j + 1, E, _, _, _, by go_num, rfl, by omega, by omega, by omega, hE2, ho, hg⟩
        case measure => simp [intOf]; omega
      | true =>
        rintro e w2 ⟨rfl, hg2⟩
        have hgw := hg.out.trans hg2
        have hga := Gr.alloc w2 (.cells #[.int .i64 xn.kind, .string (bs xn.key), .int .i64 xn.gen, .int .i64 xn.cart, .slice xA xn.data.length xc, .string (bs xn.sum), .int .i64 xn.size, .slice xA2 xn.places.length xc2] 25)
        replace ho := ON.gr hga (ON.gr hg2 ho)
        have hqv : Hid (NeV ⟨xn, xA, xc, xA2, xc2⟩ (w2.alloc (.cells #[.int .i64 xn.kind, .string (bs xn.key), .int .i64 xn.gen, .int .i64 xn.cart, .slice xA xn.data.length xc, .string (bs xn.sum), .int .i64 xn.size, .slice xA2 xn.places.length xc2] 25))) := Lib.hid (hxv.gr (hgw.trans hga))
        have hap : Hid (Apt ⟨xn, xA, xc, xA2, xc2⟩ (Value.slice A1 m1 c1).ownBlock) := Lib.hid (by
          cases hob : (Value.slice A1 m1 c1).ownBlock with
          | none => exact Apt.none_ _
          | some kk => exact hxv.fresh (by rw [hN.out]; exact (World.ownsRow.lt ho.out.row kk hob).1))
        have hlit : Hid (Reads (w2.alloc (.cells #[.int .i64 xn.kind, .string (bs xn.key), .int .i64 xn.gen, .int .i64 xn.cart, .slice xA xn.data.length xc, .string (bs xn.sum), .int .i64 xn.size, .slice xA2 xn.places.length xc2] 25)) (w2.alloc (.cells #[.int .i64 xn.kind, .string (bs xn.key), .int .i64 xn.gen, .int .i64 xn.cart, .slice xA xn.data.length xc, .string (bs xn.sum), .int .i64 xn.size, .slice xA2 xn.places.length xc2] 25)).heap.size 8 (some ⟨w2.heap.size, 0, none⟩) 1 (Ne.mk xn xA xc xA2 xc2).cells) := Lib.hid (Reads.noteLit w2 ⟨xn, xA, xc, xA2, xc2⟩)
        have hNs2 : N ≤ (w2.alloc (.cells #[.int .i64 xn.kind, .string (bs xn.key), .int .i64 xn.gen, .int .i64 xn.cart, .slice xA xn.data.length xc, .string (bs xn.sum), .int .i64 xn.size, .slice xA2 xn.places.length xc2] 25)).heap.size := by have := hg2.size; have := hga.size; omega
        have hE2 : Hid ((E ++ [(⟨xn, xA, xc, xA2, xc2⟩ : Ne)]).map (fun x : Ne => x.n) = (L.take (j + 1)).filter goodN) := Lib.hid (by rw [hstep.out, hgd, ← hE.out]; simp)
        have hgall : Hid (Gr w (w2.alloc (.cells #[.int .i64 xn.kind, .string (bs xn.key), .int .i64 xn.gen, .int .i64 xn.cart, .slice xA xn.data.length xc, .string (bs xn.sum), .int .i64 xn.size, .slice xA2 xn.places.length xc2] 25))) := Lib.hid (hgw.trans hga)
        obtain ⟨y0, y1, y2, y3, y4, y5, y6, y7⟩ := hcx'.out w2 hgw
        have hEl : E.length ≤ 1000000000000 := by omega
        replace hgd := Lib.hid hgd
        clear hg2 hgw hga hg
        go_wp2_with (at_builtin; go_must (refine wpl_appN rfl (.tmp 24) (.tmp 29) rfl N _ E ⟨xn, xA, xc, xA2, xc2⟩ rfl ho.out _ _ rfl hlit.out hqv.out hap.out hEl hNs2 ?_); intro v9 w9 ho9 hg9 hr9; have hgr9 : Hid (Gr w w9) := Lib.hid (by have h := hgall.out; unfold Gr at *; rw [hN.out] at *; exact h.trans hr9); replace ho9 := Lib.hid ho9; obtain ⟨A9, m9, c9, rfl⟩ : ∃ A m c, v9 = .slice A m c := (by obtain ⟨A, c, e, -⟩ := ho9.out.form; exact ⟨A, _, c, e⟩); clear hg9 hr9)
        go_roundw
        case rel => exact ⟨j + 1, E ++ [⟨xn, xA, xc, xA2, xc2⟩], A9, m9, c9, by go_num, rfl, by omega, by omega, by rw [List.length_append, List.length_singleton]; omega, hE2, ho9, hgr9⟩
        case measure => simp [intOf]; omega
    · have hend : L.take j = L.take most := by
        by_cases hjm' : j = most
        · rw [hjm']
        · obtain rfl : j = n := by omega
          rw [← hn.out, List.take_length, List.take_of_length_le (by rw [hn.out]; omega)]
      have hE2 : Hid (E.map (·.n) = (L.take most).filter goodN) := Lib.hid (by rw [← hend]; exact hE.out)
      have hcs : ¬ (j : Int) < (n : Int) ∨ ((j : Int) < (n : Int) ∧ ¬ (j : Int) < (most : Int)) := by omega
      replace hlt := Lib.hid hlt
      clear hend
      rcases hcs with i1 | ⟨i1, i2⟩
      all_goals
        go_wp2_with fail
        go_ret
        first
          | exact ⟨_, E, rfl, hE2.out, ho.out, hg.out⟩
          | exact ⟨_, rfl, E, hE2.out, ho.out, hg.out⟩
end Go.Proofs.Ytgdbbjijneidaaa
