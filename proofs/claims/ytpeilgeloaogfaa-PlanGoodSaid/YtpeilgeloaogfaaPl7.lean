/- plan: nothing of no shards; an entry's first sixty places; the fixed fact. -/
import Derived.Test.YtpeilgeloaogfaaPl5
import Derived.Test.YtpeilgeloaogfaaPl6
import Derived.Deep.DeepCutAuto
namespace Go.Proofs.Ytpeilgeloaogfaa
set_option linter.unusedVariables false
set_option linter.unusedSimpArgs false
open Go Go.RowKit
set_option maxHeartbeats 4000000 in
theorem whole_none (e : En) (A : Option Addr) (n c : Nat) (w : World) :
    Calls Try.prog 75 #[.agg #[.string (bs e.key), .int .i64 e.gen, .int .i64 e.size, .string (bs e.sum), .slice A n c], .slice none 0 0] w fun r w' => r = .returned (.tuple #[.slice none 0 0, .int .i64 1]) ∧ Gr w w' := by
  have hb1 : Gr w (w.alloc (.cells #[.string (bs e.key), .int .i64 e.gen, .int .i64 e.size, .string (bs e.sum), .slice A n c] 79)) := (Below.refl _ _).alloc (Nat.le_refl _) _
  replace hb1 := Lib.hid hb1
  go_enter Try.func75, Try.ntmps75
  go_wp2_with fail
  go_ret2
  exact ⟨rfl, hb1.out⟩
set_option maxHeartbeats 4000000 in
set_option maxRecDepth 10000 in
theorem slots_any (e : En) (A : Option Addr) (n c : Nat) (hc : n ≤ c) (hcm : c ≤ 9223372036854775807) (w : World) :
    Calls Try.prog 67 #[.agg #[.string (bs e.key), .int .i64 e.gen, .int .i64 e.size, .string (bs e.sum), .slice A n c]] w fun r w' => r = .returned (.agg #[.string (bs e.key), .int .i64 e.gen, .int .i64 e.size, .string (bs e.sum), .slice A (min n 60) c]) ∧ Gr w w' := by
  have x1 := heap_alloc_new w (.cells #[.string (bs e.key), .int .i64 e.gen, .int .i64 e.size, .string (bs e.sum), .slice A n c] 79)
  have c0 := blk_cell (j := 0) x1 rfl
  have c1 := blk_cell (j := 1) x1 rfl
  have c2 := blk_cell (j := 2) x1 rfl
  have c3 := blk_cell (j := 3) x1 rfl
  have c4 := blk_cell (j := 4) x1 rfl
  have hb1 : Gr w (w.alloc (.cells #[.string (bs e.key), .int .i64 e.gen, .int .i64 e.size, .string (bs e.sum), .slice A n c] 79)) := (Below.refl _ _).alloc (Nat.le_refl _) _
  replace x1 := Lib.hid x1
  replace hb1 := Lib.hid hb1
  by_cases h60 : 60 < n
  · have i1 : (60 : Int) < (n : Int) := by omega
    have hmin : Hid (min n 60 = 60) := Lib.hid (by omega)
    rw [hmin.out]
    have hc60 : 60 ≤ c := by omega
    go_enter Try.func67, Try.ntmps67
    go_wp2_with fail
    have y1 := heap_alloc_new (w.alloc (.cells #[.string (bs e.key), .int .i64 e.gen, .int .i64 e.size, .string (bs e.sum), .slice A 60 c] 79)) (.cells #[.string (bs e.key), .int .i64 e.gen, .int .i64 e.size, .string (bs e.sum), .slice A 60 c] 79)
    rw [World.size_alloc] at y1
    have hg1 : Gr w (w.alloc (.cells #[.string (bs e.key), .int .i64 e.gen, .int .i64 e.size, .string (bs e.sum), .slice A 60 c] 79)) := (Below.refl _ _).alloc (Nat.le_refl _) _
    have hg2 : Gr (w.alloc (.cells #[.string (bs e.key), .int .i64 e.gen, .int .i64 e.size, .string (bs e.sum), .slice A 60 c] 79)) ((w.alloc (.cells #[.string (bs e.key), .int .i64 e.gen, .int .i64 e.size, .string (bs e.sum), .slice A 60 c] 79)).alloc (.cells #[.string (bs e.key), .int .i64 e.gen, .int .i64 e.size, .string (bs e.sum), .slice A 60 c] 79)) := (Below.refl _ _).alloc (Nat.le_refl _) _
    have hg := hg1.trans hg2
    have r0 := blk_cell (j := 0) y1 rfl
    have r1 := blk_cell (j := 1) y1 rfl
    have r2 := blk_cell (j := 2) y1 rfl
    have r3 := blk_cell (j := 3) y1 rfl
    have r4 := blk_cell (j := 4) y1 rfl
    exact bodyPost_ret (v := .agg #[.string (bs e.key), .int .i64 e.gen, .int .i64 e.size, .string (bs e.sum), .slice A 60 c]) (by simp [results, Try.results67, go_sem, r0, r1, r2, r3, r4]) rfl ⟨rfl, hg⟩
  · have i1 : decide ((60 : Int) < (n : Int)) = false := decide_eq_false (by omega)
    have i1' : (n : Int) ≤ 60 := by omega
    have hmin : Hid (min n 60 = n) := Lib.hid (by omega)
    rw [hmin.out]
    go_enter Try.func67, Try.ntmps67
    go_wp2_with fail
    have y1 := heap_alloc_new (w.alloc (.cells #[.string (bs e.key), .int .i64 e.gen, .int .i64 e.size, .string (bs e.sum), .slice A n c] 79)) (.cells #[.string (bs e.key), .int .i64 e.gen, .int .i64 e.size, .string (bs e.sum), .slice A n c] 79)
    rw [World.size_alloc] at y1
    have hg1 : Gr w (w.alloc (.cells #[.string (bs e.key), .int .i64 e.gen, .int .i64 e.size, .string (bs e.sum), .slice A n c] 79)) := (Below.refl _ _).alloc (Nat.le_refl _) _
    have hg2 : Gr (w.alloc (.cells #[.string (bs e.key), .int .i64 e.gen, .int .i64 e.size, .string (bs e.sum), .slice A n c] 79)) ((w.alloc (.cells #[.string (bs e.key), .int .i64 e.gen, .int .i64 e.size, .string (bs e.sum), .slice A n c] 79)).alloc (.cells #[.string (bs e.key), .int .i64 e.gen, .int .i64 e.size, .string (bs e.sum), .slice A n c] 79)) := (Below.refl _ _).alloc (Nat.le_refl _) _
    have hg := hg1.trans hg2
    have r0 := blk_cell (j := 0) y1 rfl
    have r1 := blk_cell (j := 1) y1 rfl
    have r2 := blk_cell (j := 2) y1 rfl
    have r3 := blk_cell (j := 3) y1 rfl
    have r4 := blk_cell (j := 4) y1 rfl
    exact bodyPost_ret (v := .agg #[.string (bs e.key), .int .i64 e.gen, .int .i64 e.size, .string (bs e.sum), .slice A n c]) (by simp [results, Try.results67, go_sem, r0, r1, r2, r3, r4]) rfl ⟨rfl, hg⟩
/-- the flags of ten, all asked but one -/
theorem first_a : firstV [false, false, true] 1 = ([0, 1, 3, 4, 5, 6, 7, 8], true) := by decide
theorem first_b : firstV [true, true, true] 1 = ([], false) := by decide
theorem more_a : MoreOf [true, true, true, true, true, true, true, true, false, true] 10 5 8 true := by
  unfold MoreOf
  rw [if_pos (by decide)]
  exact ⟨fun _ => ⟨by decide, by decide, by decide, by decide⟩, fun h => by cases h⟩
theorem bl_lit (w : World) (cs : Array Value) (l : List Bool) (n : Nat) (hn : l.length = n) (h : cs.toList = l.map Value.bool) : Bl (w.alloc (.cells cs 4)) (some ⟨w.heap.size, 0, none⟩) n l :=
  ⟨by rw [List.length_map]; omega, fun _ => ⟨_, rfl, by simp, by rw [← h]; exact World.news_of_block (heap_alloc_new w _)⟩⟩
def Ri (w : World) (A : Option Addr) (n : Nat) (l : List Nat) : Prop := Reads w w.heap.size 1 A n (icells l)
theorem Ri.gr {w w' : World} {A : Option Addr} {n : Nat} {l : List Nat} (hr : Gr w w') (h : Hid (Ri w A n l)) : Hid (Ri w' A n l) := Lib.hid (Reads.more (Reads.below h.out hr) (Below.size hr))
theorem addr_flatP {w : World} {ad : Addr} {v : Value} (h0 : w.cell? (ad.add 0) = some v) : ∃ b o, ad = ⟨b, o, none⟩ := by
  obtain ⟨b, o, s⟩ := ad
  cases s with
  | none => exact ⟨b, o, rfl⟩
  | some s =>
    exfalso
    have e : (⟨b, o, some s⟩ : Addr).add 0 = ⟨b, o, some s⟩ := by unfold Addr.add; rw [if_pos rfl]
    rw [e] at h0
    unfold World.cell? at h0
    simp only [Option.isSome_some, if_true] at h0
    split at h0 <;> cases h0
theorem addr_addP (b o k : Nat) : (⟨b, o, none⟩ : Addr).add k = ⟨b, o + k, none⟩ := by unfold Addr.add; split <;> simp_all
theorem info_place : (Try.prog.info? 134).map (fun i => (i.zero, i.size, i.bytes)) = some (some (.agg #[.int .i64 0, .int .i64 0]), 2, 16) := by kernel_rfl
theorem pairs_make (w : World) : ∃ cs : Array Value, (Instr.makeSlice 77 (.int .i64 10) (.int .i64 10)).run Try.prog w = .ok (.slice (some ⟨w.heap.size, 0, none⟩) 10 10) (w.alloc (.cells cs 134)) := by
  obtain ⟨i0, hi, hz0, hz1, hz2⟩ := info_parts info_place
  have h := run_make (P := Try.prog) w 77 134 i0 _ Try.underlying77 hi hz0 .i64 .i64 10 10 (by decide) (by decide) (by rw [hz2]; decide) (by decide)
  exact ⟨_, h⟩
set_option maxHeartbeats 8000000 in
set_option maxRecDepth 10000 in
theorem awake19_any (w : World) : Calls Try.prog 68 #[] w fun r w' => r = .returned (.bool true) ∧ Gr w w' := by
  obtain ⟨cs, hmk⟩ := pairs_make w
  have hb1 : Gr w (w.alloc (.cells cs 134)) := (Below.refl _ _).alloc (Nat.le_refl _) _
  go_enter Try.func68, Try.ntmps68
  go_upto_region 2 with (fail)
  clear hmk
  have x1 := heap_alloc_new (w.alloc (.cells cs 134)) (.cells #[.string { data := #[] }, .int .i64 0, .int .i64 0, .string { data := #[] }, .slice (some ⟨w.heap.size, 0, none⟩) 10 10] 79)
  rw [World.size_alloc] at x1
  have hb2 : Gr w ((w.alloc (.cells cs 134)).alloc (.cells #[.string { data := #[] }, .int .i64 0, .int .i64 0, .string { data := #[] }, .slice (some ⟨w.heap.size, 0, none⟩) 10 10] 79)) := hb1.trans ((Below.refl _ _).alloc (Nat.le_refl _) _)
  clear hb1
  generalize (w.alloc (.cells cs 134)).alloc (.cells #[.string { data := #[] }, .int .i64 0, .int .i64 0, .string { data := #[] }, .slice (some ⟨w.heap.size, 0, none⟩) 10 10] 79) = w2 at x1 hb2 ⊢
  generalize hA : (some ⟨w.heap.size, 0, none⟩ : Option Addr) = A at x1 ⊢
  generalize hg : w.heap.size + 1 = g at x1 ⊢
  replace hA := Lib.hid hA
  replace hg := Lib.hid hg
  replace x1 := Lib.hid x1
  have hq : Hid (Gr w w2) := Lib.hid hb2
  clear hb2
  have hg1 : Gr w2 (w2.alloc (.cells #[.bool false, .bool false, .bool true] 4)) := (Below.refl _ _).alloc (Nat.le_refl _) _
  have hlit := Lib.hid (bl_lit w2 #[.bool false, .bool false, .bool true] [false, false, true] 3 rfl rfl)
  replace hg1 := Lib.hid hg1
  have c0 := blk_cell (j := 0) x1.out rfl
  have c1 := blk_cell (j := 1) x1.out rfl
  have c2 := blk_cell (j := 2) x1.out rfl
  have c3 := blk_cell (j := 3) x1.out rfl
  have c4 := blk_cell (j := 4) x1.out rfl
  go_wp2_with fail
  clear c0 c1 c2 c3 c4
  refine (first_any ⟨[], 0, 0, []⟩ A 10 10 (by decide) _ 3 3 [false, false, true] _ hlit).mono ?_
  rintro r wn hp
  obtain ⟨A3, c3, l, b, rfl, hv, hc3, -, hrd, hr⟩ := hp
  replace hr := hg1.out.trans hr
  clear hg1 hlit
  have hv2 := hv.out
  rw [show (10 / 10 : Nat) = 1 from rfl, first_a] at hv2
  obtain ⟨rfl, rfl⟩ := Prod.mk.inj hv2
  clear hv hv2 hc3
  replace x1 := Lib.hid ((hr.block _ (Array.getElem?_eq_some_iff.mp x1.out).1).trans x1.out)
  replace hq := Gr.onP hr hq
  clear hr
  have hg1 : Gr wn (wn.alloc (.cells #[.bool true, .bool true, .bool true] 4)) := (Below.refl _ _).alloc (Nat.le_refl _) _
  have hlit := Lib.hid (bl_lit wn #[.bool true, .bool true, .bool true] [true, true, true] 3 rfl rfl)
  replace hg1 := Lib.hid hg1
  have hri : Hid (Ri wn A3 8 [0, 1, 3, 4, 5, 6, 7, 8]) := hrd
  clear hrd
  have c0 := blk_cell (j := 0) x1.out rfl
  have c1 := blk_cell (j := 1) x1.out rfl
  have c2 := blk_cell (j := 2) x1.out rfl
  have c3 := blk_cell (j := 3) x1.out rfl
  have c4 := blk_cell (j := 4) x1.out rfl
  go_wp2_with fail
  clear c0 c1 c2 c3 c4
  refine (first_any ⟨[], 0, 0, []⟩ A 10 10 (by decide) _ 3 3 [true, true, true] _ hlit).mono ?_
  rintro r w3 hp
  obtain ⟨A4, c4, l, b, rfl, hv, hc4, -, -, hr⟩ := hp
  replace hr := hg1.out.trans hr
  clear hg1 hlit
  have hv2 := hv.out
  rw [show (10 / 10 : Nat) = 1 from rfl, first_b] at hv2
  obtain ⟨rfl, rfl⟩ := Prod.mk.inj hv2
  clear hv hv2 hc4
  replace x1 := Lib.hid ((hr.block _ (Array.getElem?_eq_some_iff.mp x1.out).1).trans x1.out)
  replace hq := Gr.onP hr hq
  replace hri := Ri.gr hr hri
  clear hr
  have hg1 : Gr w3 (w3.alloc (.cells #[.bool true, .bool true, .bool true, .bool true, .bool true, .bool true, .bool true, .bool true, .bool false, .bool true] 4)) := (Below.refl _ _).alloc (Nat.le_refl _) _
  have hlit := Lib.hid (bl_lit w3 #[.bool true, .bool true, .bool true, .bool true, .bool true, .bool true, .bool true, .bool true, .bool false, .bool true] [true, true, true, true, true, true, true, true, false, true] 10 rfl rfl)
  replace hg1 := Lib.hid hg1
  have c0 := blk_cell (j := 0) x1.out rfl
  have c1 := blk_cell (j := 1) x1.out rfl
  have c2 := blk_cell (j := 2) x1.out rfl
  have c3 := blk_cell (j := 3) x1.out rfl
  have c4 := blk_cell (j := 4) x1.out rfl
  go_wp2_with fail
  clear c0 c1 c2 c3 c4
  refine (more_any ⟨[], 0, 0, []⟩ A 10 10 (by decide) _ 10 10 [true, true, true, true, true, true, true, true, false, true] 5 _ hlit).mono ?_
  rintro r w4 hp
  obtain ⟨k, b, rfl, hv, hr⟩ := hp
  replace hr := hg1.out.trans hr
  clear hg1 hlit
  obtain ⟨rfl, rfl⟩ := MoreOf.one hv.out more_a
  clear hv
  replace x1 := Lib.hid ((hr.block _ (Array.getElem?_eq_some_iff.mp x1.out).1).trans x1.out)
  replace hq := Gr.onP hr hq
  replace hri := Ri.gr hr hri
  clear hr
  have c0 := blk_cell (j := 0) x1.out rfl
  have c1 := blk_cell (j := 1) x1.out rfl
  have c2 := blk_cell (j := 2) x1.out rfl
  have c3 := blk_cell (j := 3) x1.out rfl
  have c4 := blk_cell (j := 4) x1.out rfl
  go_wp2_with fail
  clear c0 c1 c2 c3 c4
  refine (whole_none ⟨[], 0, 0, []⟩ A 10 10 _).mono ?_
  rintro r w5 hp
  obtain ⟨rfl, hr⟩ := hp
  replace x1 := Lib.hid ((hr.block _ (Array.getElem?_eq_some_iff.mp x1.out).1).trans x1.out)
  replace hq := Gr.onP hr hq
  replace hri := Ri.gr hr hri
  clear hr
  obtain ⟨ad, u0, rfl, -, -, d0⟩ := Reads.at_ hri.out (k := 0) (by decide)
  obtain ⟨ad2, u, e2, -, hu2, d2⟩ := Reads.at_ hri.out (k := 2) (by decide)
  injection e2 with e2
  subst e2
  obtain ⟨ad', u', e7, -, hu7, d7⟩ := Reads.at_ hri.out (k := 7) (by decide)
  injection e7 with e7
  subst e7
  have hu2' : u = .int .i64 3 := by injection hu2 with h; exact h.symm
  have hu7' : u' = .int .i64 8 := by injection hu7 with h; exact h.symm
  subst hu2'
  subst hu7'
  clear hu2 hu7
  obtain ⟨b9, o9, rfl⟩ := addr_flatP d0
  rw [addr_addP] at d2 d7
  clear d0
  go_wp2_with fail
  go_ret
  exact ⟨rfl, hq.out⟩
end Go.Proofs.Ytpeilgeloaogfaa
