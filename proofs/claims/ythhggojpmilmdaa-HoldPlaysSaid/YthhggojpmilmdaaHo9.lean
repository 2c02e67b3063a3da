/- hold: the fixed fact. -/
import Derived.Test.YthhggojpmilmdaaHo8
namespace Go.Proofs.Ythhggojpmilmdaa
set_option linter.unusedVariables false
set_option linter.unusedSimpArgs false
open Go Go.RowKit
theorem byt_lit (lo : Nat) (w : World) (cs : Array Value) (l : List UInt8) (h : cs.toList = l.map vb) : Hid (BytH lo l (some ⟨w.heap.size, 0, none⟩) (w.alloc (.cells cs 5))) :=
  Lib.hid ⟨Rd.lit w cs _ l h _ (by simp), fun ad ha _ => by injection ha with ha; subst ha; exact .inr ⟨cs, World.alloc_heap_new w _⟩⟩
theorem str_lit (w : World) (cs : Array Value) (l : List UInt8) (h : cs.toList = l.map vb) (n c : Nat) (hn : l.length = n) : (convert 27 9 (.slice (some ⟨w.heap.size, 0, none⟩) n c)).run Try.prog (w.alloc (.cells cs 5)) = .ok (.string (bs l)) (w.alloc (.cells cs 5)) :=
  run_str_at c (Rd.lit w cs _ l h _ (Nat.lt_succ_self _)) hn
theorem make6 : ∃ cs : Array Value, ∀ w : World, (Instr.makeSlice 27 (.int .i64 6) (.int .i64 6)).run Try.prog w = .ok (.slice (some ⟨w.heap.size, 0, none⟩) 6 6) (w.alloc (.cells cs 5)) := by
  obtain ⟨i0, hi, hz0, hz1, hz2⟩ := info_parts info_u8
  exact ⟨_, fun w => run_make (P := Try.prog) w 27 5 i0 _ Try.underlying27 hi hz0 .i64 .i64 6 6 (by decide) (by decide) (by rw [hz2]; decide) (by decide)⟩
set_option maxHeartbeats 2000000 in
set_option maxRecDepth 10000 in
theorem awake17_any (w : World) : Calls Try.prog 21 #[] w fun e w' => e = .returned (.bool true) ∧ GrM w w' := by
  obtain ⟨lo, hlo⟩ : ∃ lo, w.heap.size = lo := ⟨_, rfl⟩
  have hnew := Lib.hid (new17_any 5 w)
  rw [hlo, show quotaOf 5 = 5 from rfl] at hnew
  have hfin : Hid (∀ x, TChg lo hts w x → GrM w x) := Lib.hid (fun x h => by have := h.below (by omega); rw [← hlo] at this; exact this)
  have hlow : Hid (∀ x, TChg lo hts w x → lo ≤ x.heap.size) := Lib.hid (fun x h => by have := h.size; omega)
  have hgt : Hid (∀ x y, TChg lo hts w x → GrM x y → TChg lo hts w y) := Lib.hid (fun x y h g => h.trans (TChg.of_below g))
  replace hlo := Lib.hid hlo
  have hP1 : Hid (∀ w1 g r, TChg lo hts w w1 → Hid (Hd w1 lo g r 5 []) → Calls Try.prog 14 #[.pointer (some ⟨g, 0, none⟩), .string ⟨#[97]⟩, .slice (some ⟨w1.heap.size, 0, none⟩) 3 3] (w1.alloc (.cells #[.int .u8 1, .int .u8 2, .int .u8 3] 5)) fun e w' => e = .returned (.bool true) ∧ (∃ p v, Hid (Hd w' lo g r 5 [(p, [97], v, [1, 2, 3])])) ∧ TChg lo hts w w') := Lib.hid (fun w1 g r ht h => by
    refine (put17_yes lo g r 5 [] [97] [1, 2, 3] (some ⟨w1.heap.size, 0, none⟩) 3 3 (Lib.hid rfl) (by decide) _ (Lib.hid (hlow.out _ (hgt.out _ _ ht (GrM.alloc _ _)))) (Hd.gr (GrM.alloc _ _) h) (byt_lit lo w1 _ _ rfl)).mono ?_
    rintro e w' ⟨he, ⟨p, v, -, hh, -⟩, ht'⟩
    exact ⟨he, ⟨p, v, hh⟩, (hgt.out _ _ ht (GrM.alloc _ _)).trans ht'⟩)
  have hP2 : Hid (∀ w1 g r p v, TChg lo hts w w1 → Hid (Hd w1 lo g r 5 [(p, [97], v, [1, 2, 3])]) → Calls Try.prog 14 #[.pointer (some ⟨g, 0, none⟩), .string ⟨#[98]⟩, .slice (some ⟨w1.heap.size, 0, none⟩) 2 2] (w1.alloc (.cells #[.int .u8 4, .int .u8 5] 5)) fun e w' => e = .returned (.bool true) ∧ (∃ p2 v2, Hid (Hd w' lo g r 5 ([] ++ (p, [97], v, [1, 2, 3]) :: [(p2, [98], v2, [4, 5])]))) ∧ TChg lo hts w w') := Lib.hid (fun w1 g r p v ht h => by
    refine (put17_yes lo g r 5 [(p, [97], v, [1, 2, 3])] [98] [4, 5] (some ⟨w1.heap.size, 0, none⟩) 2 2 (Lib.hid rfl) (by decide) _ (Lib.hid (hlow.out _ (hgt.out _ _ ht (GrM.alloc _ _)))) (Hd.gr (GrM.alloc _ _) h) (byt_lit lo w1 _ _ rfl)).mono ?_
    rintro e w' ⟨he, ⟨p, v, -, hh, -⟩, ht'⟩
    exact ⟨he, ⟨p, v, hh⟩, (hgt.out _ _ ht (GrM.alloc _ _)).trans ht'⟩)
  have hP3 : Hid (∀ w1 g r p v p2 v2, TChg lo hts w w1 → Hid (Hd w1 lo g r 5 ([] ++ [(p2, [98], v2, [4, 5])] ++ [(p, [97], v, [1, 2, 3])])) → Calls Try.prog 14 #[.pointer (some ⟨g, 0, none⟩), .string ⟨#[99]⟩, .slice (some ⟨w1.heap.size, 0, none⟩) 1 1] (w1.alloc (.cells #[.int .u8 6] 5)) fun e w' => e = .returned (.bool true) ∧ (∃ p3 v3, Hid (Hd w' lo g r 5 [(p, [97], v, [1, 2, 3]), (p3, [99], v3, [6])])) ∧ TChg lo hts w1 w') := Lib.hid (fun w1 g r p v p2 v2 ht h => by
    refine (put17_yes lo g r 5 _ [99] [6] (some ⟨w1.heap.size, 0, none⟩) 1 1 (Lib.hid rfl) (by decide) _ (Lib.hid (hlow.out _ (hgt.out _ _ ht (GrM.alloc _ _)))) (Hd.gr (GrM.alloc _ _) h) (byt_lit lo w1 _ _ rfl)).mono ?_
    rintro e w' ⟨he, ⟨p, v, -, hh, -⟩, ht'⟩
    exact ⟨he, ⟨p, v, hh⟩, (TChg.of_below (GrM.alloc _ _)).trans ht'⟩)
  go_enter Try.func21, Try.ntmps21
  go_upto_region 6 with (first
    | (go_at_call 8; go_must (refine hnew.out.mono ?_); rintro e w1 ⟨g, r, rfl, hh1, hg1⟩; clear hnew; have ht1 : TChg lo hts w w1 := TChg.of_below hg1; replace hP1 := Lib.hid (hP1.out w1 g r ht1 hh1))
    | (go_at_call 14; refine hP1.out.mono ?_; clear hP1; rintro e w2 ⟨rfl, ⟨p, v, hh2⟩, ht2⟩; replace hP2 := Lib.hid (hP2.out w2 g r p v ht2 hh2))
    | (go_at_call 14; refine hP2.out.mono ?_; clear hP2; rintro e w3 ⟨rfl, ⟨p2, v2, hh3⟩, ht3⟩; have hget := Lib.hid (get17_yes lo g r 5 [] (p, [97], v, [1, 2, 3]) [(p2, [98], v2, [4, 5])] [97] rfl w3 hh3))
    | (go_at_call 10; refine hget.out.mono ?_; clear hget; rintro e w4 ⟨v4, rfl, ho4, hh4, ht4⟩; obtain ⟨A4, c4, rfl, -, -, hr4, -⟩ := ho4.out.form; replace ht4 := ht3.trans ht4; replace hP3 := Lib.hid (hP3.out w4 g r p v p2 v2 ht4 hh4))
    | (go_at_call 14; refine hP3.out.mono ?_; clear hP3; rintro e w5 ⟨rfl, ⟨p3, v3, hh5⟩, ht5⟩; have hkeys := Lib.hid (keys17_any lo g r 5 _ (by simp) w5 hh5))
    | (go_at_call 19; refine hkeys.out.mono ?_; clear hkeys; rintro e w6 ⟨v6, rfl, ho6, hg6⟩; obtain ⟨A6, c6, rfl, -, -⟩ := ho6.out.form))
  have ho5 := row_tchg ho4.out ht5 (by decide)
  have hb6 : Below w5.heap.size w5 w6 := hg6
  have ho6' : OB w6 _ _ [1, 2, 3] := row_below ho5 hb6
  obtain ⟨A', c', hv', -, -, hr6, -⟩ := ho6'.form
  injection hv' with e1 e2 e3
  subst e1
  clear e2
  subst e3
  have hcv : (convert 27 9 (.slice A4 3 c4)).run Try.prog w6 = .ok (.string ⟨#[1, 2, 3]⟩) w6 := run_str_at (n := 3) (l := [1, 2, 3]) c4 hr6 rfl
  have hlit : (convert 27 9 (.slice (some ⟨w6.heap.size, 0, none⟩) 3 3)).run Try.prog (w6.alloc (.cells #[.int .u8 1, .int .u8 2, .int .u8 3] 5)) = .ok (.string ⟨#[1, 2, 3]⟩) (w6.alloc (.cells #[.int .u8 1, .int .u8 2, .int .u8 3] 5)) := str_lit w6 _ [1, 2, 3] rfl 3 3 rfl
  have hg8 : GrM w6 ((w6.alloc (.cells #[.int .u8 1, .int .u8 2, .int .u8 3] 5)).alloc (.cells #[.string ⟨#[97]⟩, .string ⟨#[99]⟩] 9)) := (GrM.alloc _ _).trans (GrM.alloc _ _)
  have hrs : RS [[97], [99]] (some ⟨w6.heap.size + 1, 0, none⟩) ((w6.alloc (.cells #[.int .u8 1, .int .u8 2, .int .u8 3] 5)).alloc (.cells #[.string ⟨#[97]⟩, .string ⟨#[99]⟩] 9)) := by
    refine .inr ⟨_, rfl, by simp, fun j k hk => ?_⟩
    have hh := World.news_of_block (heap_alloc_new (w6.alloc (.cells #[.int .u8 1, .int .u8 2, .int .u8 3] 5)) (.cells #[.string ⟨#[97]⟩, .string ⟨#[99]⟩] 9))
    have h2 := hh j (.string (bs k))
    rw [World.size_alloc] at h2
    have h3 := h2 (by
      match j, hk with
      | 0, hk => injection hk with hk; subst hk; rfl
      | 1, hk => injection hk with hk; subst hk; rfl
      | _ + 2, hk => cases hk)
    by_cases hj : j = 0
    · subst hj; exact h3
    · unfold Addr.add at h3; rw [if_neg hj] at h3; simpa using h3
  have hsame := Lib.hid (same17_any A6 (some ⟨w6.heap.size + 1, 0, none⟩) [[97], [99]] [[97], [99]] 2 2 c6 2 rfl rfl (by decide) _ (RS.below hg8 (OS.rs ho6.out)) hrs)
  have hh6 := Hd.gr hg6 hh5
  have ht6 : Hid (TChg lo hts w w6) := Lib.hid (ht4.trans (ht5.trans (TChg.of_below hg6)))
  have hused : Hid (∀ x, GrM w6 x → Calls Try.prog 16 #[.pointer (some ⟨g, 0, none⟩)] x fun e w' => e = .returned (.int .i64 4) ∧ w' = x) := Lib.hid (fun x hx => used_any lo g r 5 _ x (Hd.gr hx hh6))
  have hP4 : Hid (∀ A x, GrM w6 x → Calls Try.prog 14 #[.pointer (some ⟨g, 0, none⟩), .string ⟨#[97]⟩, .slice A 6 6] x fun e w' => e = .returned (.bool false) ∧ Hid (Hd w' lo g r 5 [(p3, [99], v3, [6])]) ∧ TChg lo hts w w') := Lib.hid (fun A x hx => by
    refine (put17_no lo g r 5 _ [97] [0, 0, 0, 0, 0, 0] A 6 6 rfl (by decide) x (Hd.gr hx hh6)).mono ?_
    rintro e w' ⟨he, hh, ht'⟩
    exact ⟨he, hh, (hgt.out _ _ ht6.out hx).trans ht'⟩)
  replace hg8 := Lib.hid hg8
  obtain ⟨cs6, hmk⟩ := make6
  clear ho5 ho6' hr6 hr4 hb6 hrs ht1 ht2 ht3 ht5 hh1 hh2 hh3 hh4 hh5 hg1 ht4 hg6
  go_wp2_with (first
    | (go_at_call 18; refine hsame.out.mono ?_; clear hsame; rintro e w7 ⟨rfl, hg7⟩; have hg67 := GrM.trans hg8.out hg7; replace hused := Lib.hid (hused.out w7 hg67); replace hg67 := Lib.hid hg67)
    | (go_at_call 16; refine hused.out.mono ?_; rintro e w' ⟨rfl, hee⟩; rw [hee]; clear hee)
    | (go_at_call 14; refine (hP4.out _ _ (GrM.trans hg67.out (GrM.alloc _ _))).mono ?_; clear hP4; rintro e w8 ⟨rfl, hh8, ht8⟩; have hkeys := Lib.hid (keys17_any lo g r 5 _ (by simp) w8 hh8))
    | (go_at_call 19; refine hkeys.out.mono ?_; clear hkeys; rintro e w9 ⟨v9, rfl, ho9, hg9⟩; obtain ⟨A9, c9, rfl, -, -⟩ := ho9.out.form))
  go_ret
  exact ⟨rfl, hfin.out _ (hgt.out _ _ ht8 hg9)⟩
end Go.Proofs.Ythhggojpmilmdaa
