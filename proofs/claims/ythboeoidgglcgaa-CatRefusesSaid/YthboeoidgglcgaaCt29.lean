/- cat: the law CatRefuses. -/
import Derived.Test.YthboeoidgglcgaaCt28
namespace Go.Proofs.Ythboeoidgglcgaa
set_option linter.unusedVariables false
set_option linter.unusedSimpArgs false
open Go Go.RowKit Go.Maps Go.Sort Go.Shelf Go.Proofs
set_option maxRecDepth 10000 in
set_option maxHeartbeats 2000000 in
theorem catRefuses_any (L : List Nt) (v : Value) (n : Nt) (A : Option Addr) (ca : Nat) (A2 : Option Addr) (c2 : Nat) (w : World) (h : NsV L v w) (hok : ∀ n ∈ L, n.Ok) (hn : n.Ok) (hnv : NtV n (n.agg A ca A2 c2) w) :
    Calls Try.prog 4 #[v, n.agg A ca A2 c2] w fun e w' => e = .returned (.bool true) ∧ Gr w w' := by
  have hnp : Pls n.places (.slice A2 n.places.length c2) w := by
    obtain ⟨A', c', A2', c2', e, -, hp⟩ := hnv
    unfold Nt.agg at e
    injection e with e
    have he' : some (Value.slice A2 n.places.length c2) = some (Value.slice A2' n.places.length c2') := congrArg (fun a : Array Value => a[7]?) e
    injection he' with he'
    rw [he']; exact hp
  obtain ⟨W, hW⟩ : ∃ W, w.alloc (.cells #[.int .i64 n.kind, .string (bs n.key), .int .i64 n.gen, .int .i64 n.cart, .slice A n.data.length ca, .string (bs n.sum), .int .i64 n.size, .slice A2 n.places.length c2] 32) = W := ⟨_, rfl⟩
  have hg1 : Gr w W := by rw [← hW]; exact Gr.alloc _ _
  have hb1 : W.heap[w.heap.size]? = some (.cells #[.int .i64 n.kind, .string (bs n.key), .int .i64 n.gen, .int .i64 n.cart, .slice A n.data.length ca, .string (bs n.sum), .int .i64 n.size, .slice A2 n.places.length c2] 32 (0, 0)) := by rw [← hW]; exact heap_alloc_new w _
  have hmd := Lib.hid (made_any L v 40 40 rfl (by omega) W (NsV.gr hg1 (Lib.hid h)).out hok)
  obtain ⟨ld, hld⟩ : ∃ m, n.data.length = m := ⟨_, rfl⟩
  obtain ⟨lp, hlp⟩ : ∃ m, n.places.length = m := ⟨_, rfl⟩
  have hfar : Hid (∀ x g, (∀ k, CtX.S x g k → W.heap.size ≤ k) → FarP n (n.agg A ca A2 c2) x g) := Lib.hid (fun x g hS => FarP.of_low hnp (fun k hk => Nat.le_trans (Below.size hg1) (hS k hk)))
  replace hnv := Lib.hid hnv
  have hnv' : Hid (∀ y, Gr W y → NtV n (n.agg A ca A2 c2) y) := Lib.hid (fun y hy => (NtV.gr (hg1.trans hy) hnv).out)
  unfold Nt.agg at hnv' hfar ⊢
  rw [hld, hlp] at hW hb1 hnv' hfar ⊢
  replace hg1 := Lib.hid hg1
  replace hb1 := Lib.hid hb1
  replace hnp := Lib.hid hnp
  replace hld := Lib.hid hld
  replace hlp := Lib.hid hlp
  replace hn := Lib.hid hn
  replace h := Lib.hid h
  replace hok := Lib.hid hok
  have hap := Lib.hid awake13_any
  obtain ⟨cP, hcP⟩ : ∃ cP, madeP L 40 = cP := ⟨_, rfl⟩
  rw [hcP] at hmd
  replace hcP := Lib.hid hcP
  obtain ⟨B1, hB1⟩ : ∃ B1, W.heap.size = B1 := ⟨_, rfl⟩
  rw [hB1] at hmd hfar
  have hlow : Hid (∀ y, Gr W y → B1 ≤ y.heap.size) := Lib.hid (fun y hy => by rw [← hB1]; exact Below.size hy)
  have hgo : Hid (∀ y z, Gr W y → Below B1 y z → Gr W z) := Lib.hid (fun y z h1 h2 => by unfold Gr at h1 ⊢; rw [hB1] at h1 ⊢; exact h1.trans h2)
  replace hB1 := Lib.hid hB1
  clear hnv
  go_enter Try.func4, Try.ntmps4
  go_upto_region 4 with (first
    | (go_at_call 9; go_must (refine hmd.out.mono ?_); clear hmd; rintro e w2 ⟨g, x, rfl, hc2, hg2⟩; replace hg2 := Lib.hid hg2; have hno := Lib.hid (notes_any B1 g 40 x cP w2 hc2 (by omega)); have hS := Lib.hid (fun k hk => (hc2.out.lt k hk).1))
    | (go_at_call 11; go_must (refine hno.out.mono ?_); clear hno; rintro e w3 ⟨E1, A1, c1, rfl, hE1, ho1, hg3⟩
       have hw3 : Hid (Gr W w3) := Lib.hid (hg2.out.trans hg3)
       have hc3 := Lib.hid (hc2.out.gr hg3)
       obtain ⟨m1, hm1⟩ : ∃ m, E1.length = m := ⟨_, rfl⟩
       rw [hm1] at ho1 ⊢
       replace ho1 := Lib.hid ho1
       replace hm1 := Lib.hid hm1
       replace hE1 := Lib.hid hE1
       replace hg3 := Lib.hid hg3
       have hge := Lib.hid (cgen_any B1 g 40 x cP w3 hc3)
       have hb3 := blk_below hb1.out hw3.out
       have x0 := blk_cell (j := 0) hb3 rfl
       have x1 := blk_cell (j := 1) hb3 rfl
       have x2 := blk_cell (j := 2) hb3 rfl
       have x3 := blk_cell (j := 3) hb3 rfl
       have x4 := blk_cell (j := 4) hb3 rfl
       have x5 := blk_cell (j := 5) hb3 rfl
       have x6 := blk_cell (j := 6) hb3 rfl
       have x7 := blk_cell (j := 7) hb3 rfl
       replace hb3 := Lib.hid hb3
       have hac := Lib.hid (apply_any B1 g 40 x cP w3 hc3 (by omega) (hlow.out _ hw3.out) n _ hn.out.key (hnv'.out _ hw3.out) (i64_r hn.out.cart) (hfar.out x g (fun k hk => (hc3.out.lt k hk).2))))
    | (go_at_call 15; go_must (refine hge.out.mono ?_); clear hge; rintro e w' ⟨rfl, rfl⟩)
    | (go_at_call 12; go_must (refine hac.out.mono ?_); clear hac; rintro e w5 ⟨he, y5, hc5, hu5, hS5⟩; subst he; clear x0 x1 x2 x3 x4 x5 x6 x7))
  have hw5 : Hid (Gr W w5) := Lib.hid (hgo.out _ _ hw3.out (Upd.to_below (Below.refl B1 _) hu5 (hlow.out _ hw3.out) (fun k hk => (hc3.out.lt k hk).2)))
  have ho5 := Lib.hid (ho1.out.upd hu5 hS.out)
  have hgen := Lib.hid (apply_gen (c := cP) n)
  have hsame := Lib.hid (apply_same (c := cP) (n := n))
  generalize hrc : cP.apply n = rc at *
  obtain ⟨z, cQ⟩ := rc
  simp only at hc5 hgen hsame ⊢
  replace hrc := Lib.hid hrc
  replace hu5 := Lib.hid hu5
  replace hS5 := Lib.hid hS5
  clear ho1 hc3 hc2 hg2
  by_cases hz : z = 0
  · subst hz
    go_wp2_with (first
      | (go_at_call 14; go_must (refine (hap.out _).mono ?_); clear hap; rintro e w6 ⟨rfl, hg6⟩; have hw6 : Hid (Gr W w6) := Lib.hid (hw5.out.trans hg6); have hg7 := Lib.hid (cgen_any B1 g 41 y5 cQ w6 (Lib.hid (hc5.out.gr hg6))))
      | (go_at_call 15; go_must (refine hg7.out.mono ?_); clear hg7; rintro e w' ⟨rfl, rfl⟩; have hge2 := hgen.out))
    go_ret
    exact ⟨by first | rfl | simp, hg1.out.trans hw6.out⟩
  · have hQ : cQ = cP := hsame.out hz
    subst hQ
    have hzb : (z != 0) = true := by simpa using hz
    go_wp2_with (first
      | (go_at_call 14; go_must (refine (hap.out _).mono ?_); clear hap; rintro e w6 ⟨rfl, hg6⟩; have hw6 : Hid (Gr W w6) := Lib.hid (hw5.out.trans hg6); have hc6 := Lib.hid (hc5.out.gr hg6); have ho6 := Lib.hid (ho5.out.gr hg6); have hno := Lib.hid (notes_any B1 g 41 y5 cQ w6 hc6 (by omega)))
      | (go_at_call 11; go_must (refine hno.out.mono ?_); clear hno; rintro e w7 ⟨E2, A4, c4, rfl, hE2, ho2, hg7⟩
         have hw7 : Hid (Gr W w7) := Lib.hid (hw6.out.trans hg7)
         have hal := Lib.hid (alike_any _ _ _ _ w7 ((ho6.out.gr hg7).ns) ho2.ns)
         rw [hE1.out, hE2, decide_eq_true rfl] at hal
         have hc7 := Lib.hid (hc6.out.gr hg7)
         replace ho2 := Lib.hid ho2
         replace hg7 := Lib.hid hg7)
      | (go_at_call 16; go_must (refine hal.out.mono ?_); clear hal; rintro e w8 ⟨rfl, hg8⟩; have hw8 : Hid (Gr W w8) := Lib.hid (hw7.out.trans hg8); have hge3 := Lib.hid (cgen_any B1 g 41 y5 cQ w8 (Lib.hid (hc7.out.gr hg8))))
      | (go_at_call 15; go_must (refine hge3.out.mono ?_); clear hge3; rintro e w' ⟨rfl, rfl⟩))
    go_ret
    exact ⟨by first | rfl | simp, hg1.out.trans hw8.out⟩
end Go.Proofs.Ythboeoidgglcgaa
