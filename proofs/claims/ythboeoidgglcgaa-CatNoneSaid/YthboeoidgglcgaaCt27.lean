/- cat: the law CatNone. -/
import Derived.Test.YthboeoidgglcgaaCt26
namespace Go.Proofs.Ythboeoidgglcgaa
set_option linter.unusedVariables false
set_option linter.unusedSimpArgs false
open Go Go.RowKit Go.Maps Go.Sort Go.Shelf Go.Proofs
theorem rsame10_zero (w : World) : Calls Try.prog 26 #[.agg #[.string ⟨#[]⟩, .int .i64 0, .int .i64 0, .string ⟨#[]⟩, .slice none 0 0], .agg #[.string ⟨#[]⟩, .int .i64 0, .int .i64 0, .string ⟨#[]⟩, .slice none 0 0]] w fun e w' => e = .returned (.bool true) ∧ Gr w w' := by
  obtain ⟨W, hW⟩ : ∃ W, w.alloc (.cells #[.string ⟨#[]⟩, .int .i64 0, .int .i64 0, .string ⟨#[]⟩, .slice none 0 0] 45) = W := ⟨_, rfl⟩
  obtain ⟨W2, hW2⟩ : ∃ W2, W.alloc (.cells #[.string ⟨#[]⟩, .int .i64 0, .int .i64 0, .string ⟨#[]⟩, .slice none 0 0] 45) = W2 := ⟨_, rfl⟩
  have hg1 : Gr w W := by rw [← hW]; exact Gr.alloc _ _
  have hg2 : Gr W W2 := by rw [← hW2]; exact Gr.alloc _ _
  have hb1 : W2.heap[w.heap.size]? = some (.cells #[.string ⟨#[]⟩, .int .i64 0, .int .i64 0, .string ⟨#[]⟩, .slice none 0 0] 45 (0, 0)) := by rw [← hW2]; exact blk_alloc (by rw [← hW]; exact heap_alloc_new w _) _
  have hb2 : W2.heap[W.heap.size]? = some (.cells #[.string ⟨#[]⟩, .int .i64 0, .int .i64 0, .string ⟨#[]⟩, .slice none 0 0] 45 (0, 0)) := by rw [← hW2]; exact heap_alloc_new W _
  have x0 := blk_cell (j := 0) hb1 rfl
  have x1 := blk_cell (j := 1) hb1 rfl
  have x2 := blk_cell (j := 2) hb1 rfl
  have x3 := blk_cell (j := 3) hb1 rfl
  have x4 := blk_cell (j := 4) hb1 rfl
  have y0 := blk_cell (j := 0) hb2 rfl
  have y1 := blk_cell (j := 1) hb2 rfl
  have y2 := blk_cell (j := 2) hb2 rfl
  have y3 := blk_cell (j := 3) hb2 rfl
  have y4 := blk_cell (j := 4) hb2 rfl
  replace hb1 := Lib.hid hb1
  replace hb2 := Lib.hid hb2
  have hgg := Lib.hid (hg1.trans hg2)
  clear hg1 hg2
  go_enter Try.func26, Try.ntmps26
  go_wp2_with fail
  refine wp_loop_rounds 1 ?_
  rw [rounds_succ]
  go_wp2
  go_ret
  exact ⟨rfl, hgg.out⟩
set_option maxRecDepth 10000 in
set_option maxHeartbeats 2000000 in
theorem catNone_any (n : Nt) (A : Option Addr) (ca : Nat) (A2 : Option Addr) (c2 : Nat) (k : By) (z : Int) (w : World) : Calls Try.prog 8 #[n.agg A ca A2 c2, .string (bs k), .int .i64 z] w fun e w' => e = .returned (.bool true) ∧ Gr w w' := by
  obtain ⟨nk, ny, ng, nc, nd, nu, ns, np⟩ := n
  unfold Nt.agg
  simp only
  generalize nd.length = ld
  generalize np.length = lp
  obtain ⟨W, hW⟩ : ∃ W, w.alloc (.cells #[.int .i64 nk, .string (bs ny), .int .i64 ng, .int .i64 nc, .slice A ld ca, .string (bs nu), .int .i64 ns, .slice A2 lp c2] 32) = W := ⟨_, rfl⟩
  have hg1 : Gr w W := by rw [← hW]; exact Gr.alloc _ _
  have hb1 : W.heap[w.heap.size]? = some (.cells #[.int .i64 nk, .string (bs ny), .int .i64 ng, .int .i64 nc, .slice A ld ca, .string (bs nu), .int .i64 ns, .slice A2 lp c2] 32 (0, 0)) := by rw [← hW]; exact heap_alloc_new w _
  replace hg1 := Lib.hid hg1
  replace hb1 := Lib.hid hb1
  have hD := Lib.hid (fun w => nil_Data k w)
  have hE := Lib.hid (fun w => nil_Entry k w)
  unfold entZ at hE
  have hA := Lib.hid (fun w => nil_Apply nk ng nc ns ny nu A A2 ld ca lp c2 w)
  have hap := Lib.hid awake13_any
  go_enter Try.func8, Try.ntmps8
  go_upto_region 3 with (go_at_call 20; go_must (refine (hD.out _).mono ?_); rintro e w2 ⟨rfl, hg2⟩; have hgW2 : Hid (Gr W w2) := (Lib.hid hg2); clear hg2)
  have h1g := Lib.hid (fun z w => nil_Retired z w)
  have h2g := Lib.hid (fun k w => nil_Has k w)
  have hS := Lib.hid rsame10_zero
  go_wp2_with (first
    | (go_at_call 21; go_must (refine (hE.out _).mono ?_); clear hE; rintro e w3 ⟨rfl, hg3⟩
       have hw3 : Hid (Gr W w3) := Lib.hid (hgW2.out.trans hg3)
       have hb3 : Hid ((w3.alloc (.cells #[.string ⟨#[]⟩, .int .i64 0, .int .i64 0, .string ⟨#[]⟩, .slice none 0 0] 45)).heap[w3.heap.size]? = some (.cells #[.string ⟨#[]⟩, .int .i64 0, .int .i64 0, .string ⟨#[]⟩, .slice none 0 0] 45 (0, 0))) := Lib.hid (heap_alloc_new w3 _)
       have hg3' : Hid (Gr W (w3.alloc (.cells #[.string ⟨#[]⟩, .int .i64 0, .int .i64 0, .string ⟨#[]⟩, .slice none 0 0] 45))) := Lib.hid (hw3.out.trans (Gr.alloc _ _))
       clear hg3)
    | (go_at_call 14; go_must (refine (hap.out _).mono ?_); clear hap; rintro e w4 ⟨rfl, hg4⟩
       have hw4 : Hid (Gr W w4) := Lib.hid (hg3'.out.trans hg4)
       have hb4 := blk_below hb1.out hw4.out
       have hb34 := Lib.hid (blk_below hb3.out hg4)
       have x0 := blk_cell (j := 0) hb4 rfl
       have x1 := blk_cell (j := 1) hb4 rfl
       have x2 := blk_cell (j := 2) hb4 rfl
       have x3 := blk_cell (j := 3) hb4 rfl
       have x4 := blk_cell (j := 4) hb4 rfl
       have x5 := blk_cell (j := 5) hb4 rfl
       have x6 := blk_cell (j := 6) hb4 rfl
       have x7 := blk_cell (j := 7) hb4 rfl
       replace hb4 := Lib.hid hb4)
    | (go_at_call 12; go_must (refine (hA.out _).mono ?_); clear hA; rintro e w5 ⟨rfl, hg5⟩; have hw5 : Hid (Gr W w5) := Lib.hid (hw4.out.trans hg5); have hb5 := Lib.hid (blk_below hb34.out hg5); clear x0 x1 x2 x3 x4 x5 x6 x7)
    | (go_at_call 22; go_must (refine (h2g.out k _).mono ?_); clear h2g; rintro e w6 ⟨rfl, hg6⟩; have hw6 : Hid (Gr W w6) := Lib.hid (hw5.out.trans hg6); have hb6 := blk_below hb5.out hg6
       have x0 := blk_cell (j := 0) hb6 rfl
       have x1 := blk_cell (j := 1) hb6 rfl
       have x2 := blk_cell (j := 2) hb6 rfl
       have x3 := blk_cell (j := 3) hb6 rfl
       have x4 := blk_cell (j := 4) hb6 rfl
       replace hb6 := Lib.hid hb6)
    | (go_at_call 26; go_must (refine (hS.out _).mono ?_); clear hS; rintro e w7 ⟨rfl, hg7⟩; have hw7 : Hid (Gr W w7) := Lib.hid (hw6.out.trans hg7); clear x0 x1 x2 x3 x4)
    | (go_at_call 27; go_must (refine (h1g.out z _).mono ?_); clear h1g; rintro e w8 ⟨rfl, hg8⟩; have hw8 : Hid (Gr W w8) := Lib.hid (hw7.out.trans hg8); clear hg8)
    | (go_at_call 15; go_must (refine (nil_Gen _).mono ?_); rintro e w9 ⟨rfl, hg9⟩; have hw9 : Hid (Gr W w9) := Lib.hid (hw8.out.trans hg9); clear hg9)
    | (go_at_call 25; go_must (refine (nil_Used _).mono ?_); rintro e w10 ⟨rfl, hg10⟩; have hw10 : Hid (Gr W w10) := Lib.hid (hw9.out.trans hg10); clear hg10)
    | (go_at_call 17; go_must (refine (nil_Keys _).mono ?_); rintro e w11 ⟨rfl, hg11⟩; have hw11 : Hid (Gr W w11) := Lib.hid (hw10.out.trans hg11); clear hg11)
    | (go_at_call 18; go_must (refine (nil_Staged _).mono ?_); rintro e w12 ⟨rfl, hg12⟩; have hw12 : Hid (Gr W w12) := Lib.hid (hw11.out.trans hg12); clear hg12)
    | (go_at_call 19; go_must (refine (nil_Entries _).mono ?_); rintro e w13 ⟨rfl, hg13⟩; have hw13 : Hid (Gr W w13) := Lib.hid (hw12.out.trans hg13); clear hg13)
    | (go_at_call 24; go_must (refine (nil_Tombs _).mono ?_); rintro e w14 ⟨rfl, hg14⟩; have hw14 : Hid (Gr W w14) := Lib.hid (hw13.out.trans hg14); clear hg14)
    | (go_at_call 11; go_must (refine (nil_Notes _).mono ?_); rintro e w15 ⟨rfl, hg15⟩; have hw15 : Hid (Gr W w15) := Lib.hid (hw14.out.trans hg15); clear hg15))
  go_ret
  exact ⟨by first | rfl | simp, hg1.out.trans hw15.out⟩
theorem catNone_str (n : Nt) (A : Option Addr) (ca : Nat) (A2 : Option Addr) (c2 : Nat) (s : ByteArray) (z : Int) (w : World) : Calls Try.prog 8 #[n.agg A ca A2 c2, .string s, .int .i64 z] w fun e w' => e = .returned (.bool true) ∧ Gr w w' := by
  have := catNone_any n A ca A2 c2 s.data.toList z w
  rw [show bs s.data.toList = s from by unfold bs; simp] at this
  exact this
end Go.Proofs.Ythboeoidgglcgaa
