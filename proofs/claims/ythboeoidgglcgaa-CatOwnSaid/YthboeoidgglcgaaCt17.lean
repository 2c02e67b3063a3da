/- cat: Apply. -/
import Derived.Test.YthboeoidgglcgaaCt16
namespace Go.Proofs.Ythboeoidgglcgaa
set_option linter.unusedVariables false
set_option linter.unusedSimpArgs false
open Go Go.RowKit Go.Maps
/-- what a note leaves of a catalog -/
def ApPost (lo g t : Nat) (x : CtX) (c : CtP) (n : Nt) (w : World) (e : Ending) (w' : World) : Prop :=
  e = .returned (.int .i64 (c.apply n).1) ∧ ∃ x', Hid (Ca w' lo g x' (c.apply n).2 (t + 1)) ∧ Upd (x.S g) w w' ∧ ∀ k, x'.S g k → x.S g k ∨ w.heap.size ≤ k
theorem ActPost.ap {lo g t : Nat} {x : CtX} {c : CtP} {n : Nt} {w W w' : World} {rc : Int × CtP} {e : Ending} (h : Ca w lo g x c t) (hg : Gr w W) (hrc : c.apply n = rc) (hp : ActPost lo g t x W rc e w') : ApPost lo g t x c n w e w' := by
  obtain ⟨he, x', h1, h2, h3, h4, h5⟩ := hp
  unfold ApPost
  have hok := CtP.apply_ok h.ok n
  have hfe := CtP.apply_few h.few n
  rw [hrc] at hok hfe ⊢
  exact ⟨he, x', Lib.hid (h1.ca h2 h3 hok hfe), (Upd.of_below hg).trans h4, fun k hk => (h5 k hk).imp id (fun hh => Nat.le_trans (Below.size hg) hh)⟩
theorem ApPost.no {lo g t : Nat} {x : CtX} {c : CtP} {n : Nt} {w w' : World} (h : Ca w lo g x c t) (hg : Gr w w') (hrc : c.apply n = (12, c)) : ApPost lo g t x c n w (.returned (.int .i64 12)) w' := by
  unfold ApPost
  rw [hrc]
  exact ⟨rfl, x, Lib.hid ((h.gr hg).more (Nat.le_succ _)), Upd.of_below hg, fun k hk => .inl hk⟩
set_option maxRecDepth 10000 in
set_option maxHeartbeats 2000000 in
theorem apply_any (lo g t : Nat) (x : CtX) (c : CtP) (w : World) (h : Hid (Ca w lo g x c t)) (ht : t ≤ 900) (hlo : lo ≤ w.heap.size) (n : Nt) (v : Value) (hk : n.key.length ≤ maxLen) (hv : NtV n v w) (hI : I64 n.cart) (hfar : FarP n v x g) :
    Calls Try.prog 12 #[.pointer (some ⟨g, 0, none⟩), v] w (ApPost lo g t x c n w) := by
  obtain ⟨W, hgW, hW⟩ : ∃ W, Gr w W ∧ W = w.alloc (.cells v.cells 32) := ⟨_, Gr.alloc _ _, rfl⟩
  have hcW := Lib.hid (h.out.gr hgW)
  have hloW : lo ≤ W.heap.size := Nat.le_trans hlo (Below.size hgW)
  have hvW := (NtV.gr hgW (Lib.hid hv)).out
  have a1 := Lib.hid (put_any lo g t x c W hcW ht hloW n v hk hvW)
  have a2 := Lib.hid (placed_any lo g t x c W hcW ht hloW n v hk hvW hI hfar)
  have a3 := Lib.hid (gone_any lo g t x c W hcW ht hloW n v hk hvW hI)
  have a4 := Lib.hid (begin_any lo g t x c W hcW ht hloW n v hk hvW hI)
  have a5 := Lib.hid (retire_any lo g t x c W hcW ht hloW n v hk hvW hI)
  have a6 := Lib.hid (turnT_any lo g t x c W hcW ht hloW n v hk hvW hI)
  have hap : Hid (∀ {rc e w'}, c.apply n = rc → ActPost lo g t x W rc e w' → ApPost lo g t x c n w e w') := Lib.hid (fun h1 h2 => ActPost.ap h.out hgW h1 h2)
  have hno : Hid (∀ {w'}, c.apply n = (12, c) → Gr w w' → ApPost lo g t x c n w (.returned (.int .i64 12)) w') := Lib.hid (fun h1 h2 => ApPost.no h.out h2 h1)
  have hapd : Hid (c.apply n = if n.kind = 1 then c.put n else if n.kind = 2 then c.placed n else if n.kind = 3 then c.gone n else if n.kind = 4 then c.begin_ n else if n.kind = 5 then c.retire n else if n.kind = 6 then c.turnT n else (12, c)) := Lib.hid rfl
  obtain ⟨A, ca, A2, c2, rfl, hdt, hpl⟩ := hv
  obtain ⟨N, hN⟩ : ∃ N, w.heap.size = N := ⟨_, rfl⟩
  generalize hp1 : c.put n = p1 at a1 hapd
  generalize hp2 : c.placed n = p2 at a2 hapd
  generalize hp3 : c.gone n = p3 at a3 hapd
  generalize hp4 : c.begin_ n = p4 at a4 hapd
  generalize hp5 : c.retire n = p5 at a5 hapd
  generalize hp6 : c.turnT n = p6 at a6 hapd
  generalize hP : ApPost lo g t x c n w = P at hap hno ⊢
  generalize hQ : c.apply n = q at hap hno hapd
  obtain ⟨nk, ny, ng, nc, nd, nu, ns, np⟩ := n
  unfold Nt.agg at *
  simp only at hapd hk a1 a2 a3 a4 a5 a6 hW ⊢
  generalize nd.length = ld at *
  generalize np.length = lp at *
  replace hW : W = w.alloc (.cells #[.int .i64 nk, .string (bs ny), .int .i64 ng, .int .i64 nc, .slice A ld ca, .string (bs nu), .int .i64 ns, .slice A2 lp c2] 32) := hW
  have hbW : W.heap[N]? = some (.cells #[.int .i64 nk, .string (bs ny), .int .i64 ng, .int .i64 nc, .slice A ld ca, .string (bs nu), .int .i64 ns, .slice A2 lp c2] 32 (0, 0)) := by rw [hW, ← hN]; exact heap_alloc_new w _
  have hW' := hW.symm
  have y0 := blk_cell (j := 0) hbW rfl
  have y1 := blk_cell (j := 1) hbW rfl
  have y2 := blk_cell (j := 2) hbW rfl
  have y3 := blk_cell (j := 3) hbW rfl
  have y4 := blk_cell (j := 4) hbW rfl
  have y5 := blk_cell (j := 5) hbW rfl
  have y6 := blk_cell (j := 6) hbW rfl
  have y7 := blk_cell (j := 7) hbW rfl
  have g1 := blk_cell (j := 1) hcW.out.blk rfl
  have hnil := fun (w : World) (r : Option Nat) => run_eql_map_nil (P := Try.prog) w 59 _ _ r Try.underlying59
  replace hW := Lib.hid hW
  replace hgW := Lib.hid hgW
  replace hbW := Lib.hid hbW
  replace hvW := Lib.hid hvW
  replace hdt := Lib.hid hdt
  replace hpl := Lib.hid hpl
  replace hp1 := Lib.hid hp1
  replace hp2 := Lib.hid hp2
  replace hp3 := Lib.hid hp3
  replace hp4 := Lib.hid hp4
  replace hp5 := Lib.hid hp5
  replace hp6 := Lib.hid hp6
  replace hP := Lib.hid hP
  replace hQ := Lib.hid hQ
  replace hI := Lib.hid hI
  replace hfar := Lib.hid hfar
  replace hcW := Lib.hid hcW
  clear h
  by_cases b1 : nk = 1
  · rw [if_pos b1] at hapd
    subst b1
    replace hapd := Lib.hid hapd
    go_enter Try.func12, Try.ntmps12
    go_wp2_with (go_at_call 32; go_must (refine a1.out.mono ?_); rintro e w5 hpo; obtain ⟨z5, rfl⟩ : ∃ z, e = .returned (.int .i64 z) := ⟨_, hpo.1⟩)
    exact hap.out hapd.out hpo
  rw [if_neg b1] at hapd
  replace b1 := beq_eq_false_iff_ne.mpr b1
  by_cases b2 : nk = 2
  · rw [if_pos b2] at hapd
    subst b2
    replace hapd := Lib.hid hapd
    go_enter Try.func12, Try.ntmps12
    go_wp2_with (go_at_call 33; go_must (refine a2.out.mono ?_); rintro e w5 hpo; obtain ⟨z5, rfl⟩ : ∃ z, e = .returned (.int .i64 z) := ⟨_, hpo.1⟩)
    exact hap.out hapd.out hpo
  rw [if_neg b2] at hapd
  replace b2 := beq_eq_false_iff_ne.mpr b2
  by_cases b3 : nk = 3
  · rw [if_pos b3] at hapd
    subst b3
    replace hapd := Lib.hid hapd
    go_enter Try.func12, Try.ntmps12
    go_wp2_with (go_at_call 34; go_must (refine a3.out.mono ?_); rintro e w5 hpo; obtain ⟨z5, rfl⟩ : ∃ z, e = .returned (.int .i64 z) := ⟨_, hpo.1⟩)
    exact hap.out hapd.out hpo
  rw [if_neg b3] at hapd
  replace b3 := beq_eq_false_iff_ne.mpr b3
  by_cases b4 : nk = 4
  · rw [if_pos b4] at hapd
    subst b4
    replace hapd := Lib.hid hapd
    go_enter Try.func12, Try.ntmps12
    go_wp2_with (go_at_call 35; go_must (refine a4.out.mono ?_); rintro e w5 hpo; obtain ⟨z5, rfl⟩ : ∃ z, e = .returned (.int .i64 z) := ⟨_, hpo.1⟩)
    exact hap.out hapd.out hpo
  rw [if_neg b4] at hapd
  replace b4 := beq_eq_false_iff_ne.mpr b4
  by_cases b5 : nk = 5
  · rw [if_pos b5] at hapd
    subst b5
    replace hapd := Lib.hid hapd
    go_enter Try.func12, Try.ntmps12
    go_wp2_with (go_at_call 36; go_must (refine a5.out.mono ?_); rintro e w5 hpo; obtain ⟨z5, rfl⟩ : ∃ z, e = .returned (.int .i64 z) := ⟨_, hpo.1⟩)
    exact hap.out hapd.out hpo
  rw [if_neg b5] at hapd
  replace b5 := beq_eq_false_iff_ne.mpr b5
  by_cases b6 : nk = 6
  · rw [if_pos b6] at hapd
    subst b6
    replace hapd := Lib.hid hapd
    go_enter Try.func12, Try.ntmps12
    go_wp2_with (go_at_call 37; go_must (refine a6.out.mono ?_); rintro e w5 hpo; obtain ⟨z5, rfl⟩ : ∃ z, e = .returned (.int .i64 z) := ⟨_, hpo.1⟩)
    exact hap.out hapd.out hpo
  rw [if_neg b6] at hapd
  replace b6 := beq_eq_false_iff_ne.mpr b6
  replace hapd := Lib.hid hapd
  go_enter Try.func12, Try.ntmps12
  go_wp2_with fail
  exact hno.out hapd.out hgW.out
end Go.Proofs.Ythboeoidgglcgaa
