/- model: the contracts, each way by itself; the law's fixed fact. -/
import Derived.Test.YtipdjchgdhfciaaMd3
namespace Go.Proofs.Ytipdjchgdhfciaa
set_option linter.unusedVariables false
set_option linter.unusedSimpArgs false
open Go Go.RowKit Go.Maps Go.Sort
theorem put22_ok (lo g b n : Nat) (L : List En) (k d : List UInt8) (A : Option Addr) (m c : Nat) (hk : k.length ≤ maxLen) (hd : d.length = m) (hn : n ≤ 1000000) (w : World) (hlo : lo ≤ w.heap.size) (h : Hid (Md w lo g b n L)) (hr : Rd w w.heap.size A d) (he : putE L k d = 0) :
    Calls Try.prog 11 #[.pointer (some ⟨g, 0, none⟩), .string (bs k), .slice A m c] w fun e w' => e = .returned (.int .i64 0) ∧ ∃ v, Hid (Md w' lo g b (n + 1) (L ++ [(k, v, d)])) ∧ Upd (· = b) w w' :=
  (put22_any lo g b n L k d A m c hk hd hn w hlo h hr).mono fun e w' ⟨h1, h2⟩ => by
    rw [he] at h1 h2
    rcases h2 with ⟨h2, -⟩ | ⟨-, h2⟩
    · exact absurd rfl h2
    · exact ⟨h1, h2⟩
theorem put22_no (lo g b n : Nat) (L : List En) (k d : List UInt8) (A : Option Addr) (m c : Nat) (hk : k.length ≤ maxLen) (hd : d.length = m) (hn : n ≤ 1000000) (w : World) (hlo : lo ≤ w.heap.size) (h : Hid (Md w lo g b n L)) (hr : Rd w w.heap.size A d) (z : Int) (he : putE L k d = z) (hz : z ≠ 0) :
    Calls Try.prog 11 #[.pointer (some ⟨g, 0, none⟩), .string (bs k), .slice A m c] w fun e w' => e = .returned (.int .i64 z) ∧ w' = w :=
  (put22_any lo g b n L k d A m c hk hd hn w hlo h hr).mono fun e w' ⟨h1, h2⟩ => by
    rw [he] at h1 h2
    rcases h2 with ⟨-, h2⟩ | ⟨h2, -⟩
    · exact ⟨h1, h2⟩
    · exact absurd h2 hz
theorem get22_yes (lo g b n : Nat) (L : List En) (k : List UInt8) (hk : k.length ≤ maxLen) (w : World) (h : Hid (Md w lo g b n L)) (hh : hasK L k = true) :
    Calls Try.prog 18 #[.pointer (some ⟨g, 0, none⟩), .string (bs k)] w fun e w' => ∃ v, e = .returned (.tuple #[v, .bool true]) ∧ Hid (OB w' w.heap.size v (dataOf L k)) ∧ GrM w w' :=
  (get22_any lo g b n L k hk w h).mono fun e w' hp => by
    rcases hp with ⟨h2, -⟩ | ⟨-, x, hx, hxk, v, h1, h2, h3⟩
    · rw [hh] at h2; cases h2
    · refine ⟨v, h1, ?_, h3⟩
      rw [← hxk, dataOf_at h.out.dist hx]; exact h2
theorem get22_no (lo g b n : Nat) (L : List En) (k : List UInt8) (hk : k.length ≤ maxLen) (w : World) (h : Hid (Md w lo g b n L)) (hh : hasK L k = false) :
    Calls Try.prog 18 #[.pointer (some ⟨g, 0, none⟩), .string (bs k)] w fun e w' => e = .returned (.tuple #[.slice none 0 0, .bool false]) ∧ w' = w :=
  (get22_any lo g b n L k hk w h).mono fun e w' hp => by
    rcases hp with ⟨-, h1, h2⟩ | ⟨h2, -⟩
    · exact ⟨h1, h2⟩
    · rw [hh] at h2; cases h2
theorem del22_no (lo g b n : Nat) (L : List En) (k : List UInt8) (hk : k.length ≤ maxLen) (w : World) (h : Hid (Md w lo g b n L)) (hh : hasK L k = false) :
    Calls Try.prog 9 #[.pointer (some ⟨g, 0, none⟩), .string (bs k)] w fun e w' => e = .returned (.int .i64 5) ∧ w' = w :=
  (del22_any lo g b n L k hk w h).mono fun e w' hp => by
    rcases hp with ⟨-, h1, h2⟩ | ⟨h2, -⟩
    · exact ⟨h1, h2⟩
    · rw [hh] at h2; cases h2
/-- the two blobs of the fixed fact -/
def L2 (v1 v2 : Value) : List En := [([98], v1, [120, 121]), ([97], v2, [])]
theorem keys2 (v1 v2 : Value) : keysL (L2 v1 v2) = [[97], [98]] := by
  show [[98], [97]].mergeSort leB = _
  rw [mergeSort_of_perm (l' := [[97], [98]]) (by decide)]
  exact List.mergeSort_of_pairwise (by decide)
theorem text2 (v1 v2 : Value) : textL (L2 v1 v2) = [1, 97, 0, 1, 98, 2, 120, 121] := by
  unfold textL
  rw [keys2]
  rfl
theorem has2a (v1 v2 : Value) : hasK (L2 v1 v2) [97] = true := rfl
theorem has2b (v1 v2 : Value) : hasK (L2 v1 v2) [98] = true := rfl
theorem has2c (v1 v2 : Value) : hasK (L2 v1 v2) [99] = false := rfl
theorem put1 : putE [] [98] [120, 121] = 0 := by decide
theorem put2 (v1 : Value) : putE [([98], v1, [120, 121])] [97] [] = 0 := rfl
theorem put3 (v1 v2 : Value) : putE (L2 v1 v2) [97] [] = 4 := rfl
theorem dat2 (v1 v2 : Value) : dataOf (L2 v1 v2) [98] = [120, 121] := rfl
set_option maxHeartbeats 4000000 in
set_option maxRecDepth 10000 in
theorem awake22_any (w : World) : Calls Try.prog 20 #[] w fun e w' => e = .returned (.bool true) ∧ GrM w w' := by
  obtain ⟨lo, hlo⟩ : ∃ lo, w.heap.size = lo := ⟨_, rfl⟩
  have hnew := Lib.hid (new22_any w)
  rw [hlo] at hnew
  have hlog : Hid (∀ x, GrM w x → lo ≤ x.heap.size) := Lib.hid (fun x h => by rw [← hlo]; exact h.size)
  have hlob : Hid (∀ x y, GrM w x → ∀ b, lo ≤ b → Upd (· = b) x y → GrM w y) := Lib.hid (fun x y h b hb hu => Upd.to_below h hu h.size (fun k hk => by rw [hk, hlo]; exact hb))
  replace hlo := Lib.hid hlo
  go_enter Try.func20, Try.ntmps20
  go_upto_region 2 with (go_at_call 8; go_must (refine hnew.out.mono ?_); rintro e w1 ⟨g, b, rfl, hm1, hg1⟩)
  have hb := hm1.out.bl
  obtain ⟨g8, hg8⟩ : ∃ g8, w1.heap.size = g8 := ⟨_, rfl⟩
  obtain ⟨W1, hW1⟩ : ∃ W1, W1 = w1.alloc (.cells #[.int .u8 120, .int .u8 121] 5) := ⟨_, rfl⟩
  have hgW1 : GrM w1 W1 := by rw [hW1]; exact GrM.alloc _ _
  have hmW1 := Md.below hgW1 hm1
  have hgwW : GrM w W1 := GrM.trans hg1 hgW1
  have hrd : Rd W1 W1.heap.size (some ⟨g8, 0, none⟩) [120, 121] := by rw [hW1, ← hg8]; exact Rd.lit _ _ _ _ rfl _ (by simp)
  have hP1 := Lib.hid (put22_ok lo g b 0 [] [98] [120, 121] (some ⟨g8, 0, none⟩) 2 2 (by decide) rfl (by decide) W1 (hlog.out _ hgwW) hmW1 hrd put1)
  have hP2 : Hid (∀ w2 v1, Hid (Md w2 lo g b 1 ([] ++ [([98], v1, [120, 121])])) → Upd (· = b) W1 w2 → Calls Try.prog 11 #[.pointer (some ⟨g, 0, none⟩), .string (bs [97]), .slice none 0 0] w2 fun e w' => e = .returned (.int .i64 0) ∧ (∃ v2, Hid (Md w' lo g b 2 (L2 v1 v2))) ∧ GrM w w') := Lib.hid (fun w2 v1 h2 hu2 => by
    have hgw2 := hlob.out _ _ hgwW b hb hu2
    refine (put22_ok lo g b 1 _ [97] [] none 0 0 (by decide) rfl (by decide) w2 (hlog.out _ hgw2) h2 Rd.nil_ (put2 v1)).mono ?_
    rintro e w' ⟨h1, v2, h3, h4⟩
    exact ⟨h1, ⟨v2, h3⟩, hlob.out _ _ hgw2 b hb h4⟩)
  replace hW1 := Lib.hid hW1
  replace hg8 := Lib.hid hg8
  clear hgW1 hmW1 hgwW hrd hm1 hnew
  go_upto_region 3 with (first
    | (go_at_call 11; rw [← hW1.out, hg8.out]; refine hP1.out.mono ?_; clear hP1; rintro e w2 ⟨rfl, v1, hm2, hu2⟩; replace hP2 := Lib.hid (hP2.out w2 v1 hm2 hu2); clear hm2 hu2)
    | (go_at_call 11; go_must (refine hP2.out.mono ?_); clear hP2; rintro e w3 ⟨rfl, ⟨v2, hm3⟩, hg3⟩))
  have hget := Lib.hid (get22_yes lo g b 2 (L2 v1 v2) [98] (by decide) w3 hm3 (has2b v1 v2))
  rw [dat2] at hget
  go_upto_region 4 with (go_at_call 18; go_must (refine hget.out.mono ?_); rintro e w4 ⟨v4, rfl, hv4, hg4⟩)
  obtain ⟨A4, c4, rfl, -, -, hr4, -⟩ := hv4.out.form
  have hm4 := Md.below hg4 hm3
  obtain ⟨wd, hwd⟩ : ∃ wd, wd = w4.drew := ⟨_, rfl⟩
  have hg4d : GrM w4 wd := by rw [hwd]; exact (Below.refl _ _).drew
  have hmd := Md.below hg4d hm4
  have hgwd : Hid (GrM w wd) := Lib.hid (GrM.trans hg3 (GrM.trans hg4 hg4d))
  have hcv : Hid (∀ w', GrM wd w' → (convert 29 9 (.slice A4 2 c4)).run Try.prog w' = .ok (.string ⟨#[120, 121]⟩) w') := Lib.hid (fun w' h => run_str_at (n := 2) (l := [120, 121]) c4 (hr4.below (GrM.trans hg4d h)) rfl)
  have hput := Lib.hid (put22_no lo g b 2 (L2 v1 v2) [97] [] none 0 0 (by decide) rfl (by decide) wd (hlog.out _ hgwd.out) hmd Rd.nil_ 4 (put3 v1 v2) (by decide))
  have htext : Hid (∀ w', GrM wd w' → Calls Try.prog 16 #[.pointer (some ⟨g, 0, none⟩)] w' fun e w'' => e = .returned (.string ⟨#[1, 97, 0, 1, 98, 2, 120, 121]⟩) ∧ GrM w' w'') := Lib.hid (fun w' h => by
    have := text22_any lo g b 2 (L2 v1 v2) (by show 2 ≤ _; omega) w' (Md.below h hmd)
    rw [text2] at this
    exact this)
  have hdel : Hid (∀ w', GrM wd w' → Calls Try.prog 9 #[.pointer (some ⟨g, 0, none⟩), .string (bs [99])] w' fun e w'' => e = .returned (.int .i64 5) ∧ w'' = w') := Lib.hid (fun w' h => del22_no lo g b 2 (L2 v1 v2) [99] (by decide) w' (Md.below h hmd) (has2c v1 v2))
  have hl2 : ([120, 121] : List UInt8).length = 2 := rfl
  try rw [hl2]
  clear hr4 hv4 hm4 hg4 hg3 hg4d hget hm3 hb hg1
  refine wpR_region (GrM) 9999 (by kernel_rfl) ?_
  (rw [← hwd]; replace hwd := Lib.hid hwd)
  refine wpR_take (i := 0) (v := ?_) (GrM.road) (some 17) rfl (by kernel_rfl) (by kernel_rfl) (by kernel_rfl) (by kernel_rfl) (by kernel_rfl) (fun _ _ _ h => h) (by kernel_rfl) (fun w' hw' => ?_) ?_
  rotate_left
  · go_simp; with_reducible rfl
  simp only [Act.put, List.setIfInBounds_toArray, List.set_cons_zero, List.set_cons_succ]
  refine wpR_take (i := 1) (v := ?_) (GrM.road) (some 18) rfl (by kernel_rfl) (by kernel_rfl) (by kernel_rfl) (by kernel_rfl) (by kernel_rfl) (fun _ _ _ h => h) (by kernel_rfl) (fun w' hw' => ?_) ?_
  rotate_left
  · go_simp; with_reducible rfl
  simp only [Act.put, List.setIfInBounds_toArray, List.set_cons_zero, List.set_cons_succ]
  refine wpR_take (i := 2) (v := ?_) (GrM.road) (some 19) rfl (by kernel_rfl) (by kernel_rfl) (by kernel_rfl) (by kernel_rfl) (by kernel_rfl) (fun _ _ _ h => h) (by kernel_rfl) (fun w' hw' => ?_) ?_
  rotate_left
  · go_simp; with_reducible rfl
  simp only [Act.put, List.setIfInBounds_toArray, List.set_cons_zero, List.set_cons_succ]
  refine wpR_take (i := 3) (v := ?_) (GrM.road) (some 20) rfl (by kernel_rfl) (by kernel_rfl) (by kernel_rfl) (by kernel_rfl) (by kernel_rfl) (fun _ _ _ h => h) (by kernel_rfl) (fun w' hw' => ?_) ?_
  rotate_left
  · go_simp; with_reducible rfl
  simp only [Act.put, List.setIfInBounds_toArray, List.set_cons_zero, List.set_cons_succ]
  refine wpR_take (i := 4) (v := ?_) (GrM.road) (some 21) rfl (by kernel_rfl) (by kernel_rfl) (by kernel_rfl) (by kernel_rfl) (by kernel_rfl) (fun _ _ _ h => h) (by kernel_rfl) (fun w' hw' => ?_) ?_
  rotate_left
  · go_simp; with_reducible rfl
  simp only [Act.put, List.setIfInBounds_toArray, List.set_cons_zero, List.set_cons_succ]
  refine wpR_take (i := 5) (v := ?_) (GrM.road) (some 22) rfl (by kernel_rfl) (by kernel_rfl) (by kernel_rfl) (by kernel_rfl) (by kernel_rfl) (fun _ _ _ h => h) (by kernel_rfl) (fun w' hw' => ?_) ?_
  rotate_left
  · go_simp; with_reducible rfl
  simp only [Act.put, List.setIfInBounds_toArray, List.set_cons_zero, List.set_cons_succ]
  refine wpR_take (i := 6) (v := ?_) (GrM.road) (some 23) rfl (by kernel_rfl) (by kernel_rfl) (by kernel_rfl) (by kernel_rfl) (by kernel_rfl) (fun _ _ _ h => h) (by kernel_rfl) (fun w' hw' => ?_) ?_
  rotate_left
  · go_simp; with_reducible rfl
  simp only [Act.put, List.setIfInBounds_toArray, List.set_cons_zero, List.set_cons_succ]
  refine wpR_take (i := 7) (v := ?_) (GrM.road) (some 24) rfl (by kernel_rfl) (by kernel_rfl) (by kernel_rfl) (by kernel_rfl) (by kernel_rfl) (fun _ _ _ h => h) (by kernel_rfl) (fun w' hw' => ?_) ?_
  rotate_left
  · go_simp; with_reducible rfl
  simp only [Act.put, List.setIfInBounds_toArray, List.set_cons_zero, List.set_cons_succ]
  refine wpR_one 8 rfl (by kernel_rfl) (by kernel_rfl) (fun K hK => ?_)
  go_simp
  refine hput.out.mono ?_
  rintro e w' ⟨rfl, hee⟩
  rw [hee]
  clear hee
  refine hK _ _ (fun _ => GrM.refl _) ?_
  clear hK K
  try simp only [Act.put, List.setIfInBounds_toArray, List.set_cons_zero, List.set_cons_succ]
  refine wpR_take (i := 9) (v := ?_) (GrM.road) (some 26) rfl (by kernel_rfl) (by kernel_rfl) (by kernel_rfl) (by kernel_rfl) (by kernel_rfl) (fun _ _ _ h => h) (by kernel_rfl) (fun w' hw' => ?_) ?_
  rotate_left
  · go_simp; with_reducible rfl
  simp only [Act.put, List.setIfInBounds_toArray, List.set_cons_zero, List.set_cons_succ]
  refine wpR_take (i := 10) (v := ?_) (GrM.road) (some 27) rfl (by kernel_rfl) (by kernel_rfl) (by kernel_rfl) (by kernel_rfl) (by kernel_rfl) (fun _ _ _ h => h) (by kernel_rfl) (fun w' hw' => ?_) ?_
  rotate_left
  · go_simp; with_reducible rfl
  simp only [Act.put, List.setIfInBounds_toArray, List.set_cons_zero, List.set_cons_succ]
  refine wpR_take (i := 11) (v := ?_) (GrM.road) (some 28) rfl (by kernel_rfl) (by kernel_rfl) (by kernel_rfl) (by kernel_rfl) (by kernel_rfl) (fun _ _ _ h => h) (by kernel_rfl) (fun w' hw' => ?_) ?_
  rotate_left
  · go_simp; with_reducible rfl
  simp only [Act.put, List.setIfInBounds_toArray, List.set_cons_zero, List.set_cons_succ]
  refine wpR_take (i := 12) (v := ?_) (GrM.road) (some 29) rfl (by kernel_rfl) (by kernel_rfl) (by kernel_rfl) (by kernel_rfl) (by kernel_rfl) (fun _ _ _ h => h) (by kernel_rfl) (fun w' hw' => ?_) ?_
  rotate_left
  · go_simp; with_reducible rfl
  simp only [Act.put, List.setIfInBounds_toArray, List.set_cons_zero, List.set_cons_succ]
  refine wpR_take (i := 13) (v := ?_) (GrM.road) (some 30) rfl (by kernel_rfl) (by kernel_rfl) (by kernel_rfl) (by kernel_rfl) (by kernel_rfl) (fun _ _ _ h => h) (by kernel_rfl) (fun w' hw' => ?_) ?_
  rotate_left
  · go_simp; with_reducible rfl
  simp only [Act.put, List.setIfInBounds_toArray, List.set_cons_zero, List.set_cons_succ]
  refine wpR_take (i := 14) (v := ?_) (GrM.road) (some 31) rfl (by kernel_rfl) (by kernel_rfl) (by kernel_rfl) (by kernel_rfl) (by kernel_rfl) (fun _ _ _ h => h) (by kernel_rfl) (fun w' hw' => ?_) ?_
  rotate_left
  · go_simp; with_reducible rfl
  simp only [Act.put, List.setIfInBounds_toArray, List.set_cons_zero, List.set_cons_succ]
  refine wpR_take (i := 15) (v := ?_) (GrM.road) (some 32) rfl (by kernel_rfl) (by kernel_rfl) (by kernel_rfl) (by kernel_rfl) (by kernel_rfl) (fun _ _ _ h => h) (by kernel_rfl) (fun w' hw' => ?_) ?_
  rotate_left
  · go_simp; with_reducible rfl
  simp only [Act.put, List.setIfInBounds_toArray, List.set_cons_zero, List.set_cons_succ]
  refine wpR_take (i := 16) (v := ?_) (GrM.road) (some 33) rfl (by kernel_rfl) (by kernel_rfl) (by kernel_rfl) (by kernel_rfl) (by kernel_rfl) (fun _ _ _ h => h) (by kernel_rfl) (fun w' hw' => ?_) ?_
  rotate_left
  · have q := hcv.out w' hw'; go_simp; with_reducible rfl
  simp only [Act.put, List.setIfInBounds_toArray, List.set_cons_zero, List.set_cons_succ]
  refine wpR_take (i := 17) (v := ?_) (GrM.road) (some 34) rfl (by kernel_rfl) (by kernel_rfl) (by kernel_rfl) (by kernel_rfl) (by kernel_rfl) (fun _ _ _ h => h) (by kernel_rfl) (fun w' hw' => ?_) ?_
  rotate_left
  · go_simp; with_reducible rfl
  simp only [Act.put, List.setIfInBounds_toArray, List.set_cons_zero, List.set_cons_succ]
  refine wpR_take (i := 18) (v := ?_) (GrM.road) (some 35) rfl (by kernel_rfl) (by kernel_rfl) (by kernel_rfl) (by kernel_rfl) (by kernel_rfl) (fun _ _ _ h => h) (by kernel_rfl) (fun w' hw' => ?_) ?_
  rotate_left
  · go_simp; with_reducible rfl
  simp only [Act.put, List.setIfInBounds_toArray, List.set_cons_zero, List.set_cons_succ]
  refine wpR_take (i := 19) (v := ?_) (GrM.road) (some 36) rfl (by kernel_rfl) (by kernel_rfl) (by kernel_rfl) (by kernel_rfl) (by kernel_rfl) (fun _ _ _ h => h) (by kernel_rfl) (fun w' hw' => ?_) ?_
  rotate_left
  · go_simp; with_reducible rfl
  simp only [Act.put, List.setIfInBounds_toArray, List.set_cons_zero, List.set_cons_succ]
  refine wpR_take (i := 20) (v := ?_) (GrM.road) (some 37) rfl (by kernel_rfl) (by kernel_rfl) (by kernel_rfl) (by kernel_rfl) (by kernel_rfl) (fun _ _ _ h => h) (by kernel_rfl) (fun w' hw' => ?_) ?_
  rotate_left
  · go_simp; with_reducible rfl
  simp only [Act.put, List.setIfInBounds_toArray, List.set_cons_zero, List.set_cons_succ]
  refine wpR_two 21 22 rfl rfl (by kernel_rfl) (by kernel_rfl) (by kernel_rfl) (fun K hK => ?_) (fun K hK => ?_)
  · go_simp
    refine (htext.out _ (GrM.refl wd)).mono ?_
    rintro e w21 ⟨rfl, hg21⟩
    refine hK _ _ (fun _ => hg21) ?_
    clear hK K
    have hq21 : Hid (GrM wd w21) := Lib.hid (GrM.trans (GrM.refl wd) hg21)
    clear hg21
    try simp only [Act.put, List.setIfInBounds_toArray, List.set_cons_zero, List.set_cons_succ]
    refine wpR_one 22 rfl (by kernel_rfl) (by kernel_rfl) (fun K hK => ?_)
    go_simp
    obtain ⟨g22, hg22⟩ : ∃ g22, w21.heap.size = g22 := ⟨_, rfl⟩
    obtain ⟨W22, hW22⟩ : ∃ W22, W22 = w21.alloc (.cells #[.int .u8 1, .int .u8 97, .int .u8 0, .int .u8 1, .int .u8 98, .int .u8 2, .int .u8 120, .int .u8 121] 5) := ⟨_, rfl⟩
    have hr22 : GrM w21 W22 := by rw [hW22]; exact GrM.alloc _ _
    have hq22 : Hid (GrM wd W22) := Lib.hid (GrM.trans hq21.out hr22)
    have hcv22 : Hid (∀ w', GrM W22 w' → (convert 29 9 (.slice (some ⟨g22, 0, none⟩) 8 8)).run Try.prog w' = .ok (.string ⟨#[1, 97, 0, 1, 98, 2, 120, 121]⟩) w') := Lib.hid (fun w' h => run_str_at (n := 8) (l := [1, 97, 0, 1, 98, 2, 120, 121]) 8 (by
      have hrd : Rd W22 W22.heap.size (some ⟨g22, 0, none⟩) [1, 97, 0, 1, 98, 2, 120, 121] := by rw [hW22, ← hg22]; exact Rd.lit _ _ _ _ rfl _ (by simp)
      exact hrd.below h) rfl)
    rw [← hW22, hg22]
    replace hW22 := Lib.hid hW22
    replace hg22 := Lib.hid hg22
    refine hK _ _ (fun _ => hr22) ?_
    clear hK K
    clear hr22
    try simp only [Act.put, List.setIfInBounds_toArray, List.set_cons_zero, List.set_cons_succ]
    refine wpR_take (i := 23) (v := ?_) (GrM.road) (some 40) rfl (by kernel_rfl) (by kernel_rfl) (by kernel_rfl) (by kernel_rfl) (by kernel_rfl) (fun _ _ _ h => h) (by kernel_rfl) (fun w' hw' => ?_) ?_
    rotate_left
    · have q := hcv22.out w' hw'; go_simp; with_reducible rfl
    simp only [Act.put, List.setIfInBounds_toArray, List.set_cons_zero, List.set_cons_succ]
    refine wpR_take (i := 24) (v := ?_) (GrM.road) (some 41) rfl (by kernel_rfl) (by kernel_rfl) (by kernel_rfl) (by kernel_rfl) (by kernel_rfl) (fun _ _ _ h => h) (by kernel_rfl) (fun w' hw' => ?_) ?_
    rotate_left
    · go_simp; with_reducible rfl
    simp only [Act.put, List.setIfInBounds_toArray, List.set_cons_zero, List.set_cons_succ]
    refine wpR_take (i := 25) (v := ?_) (GrM.road) (some 42) rfl (by kernel_rfl) (by kernel_rfl) (by kernel_rfl) (by kernel_rfl) (by kernel_rfl) (fun _ _ _ h => h) (by kernel_rfl) (fun w' hw' => ?_) ?_
    rotate_left
    · go_simp; with_reducible rfl
    simp only [Act.put, List.setIfInBounds_toArray, List.set_cons_zero, List.set_cons_succ]
    refine wpR_take (i := 26) (v := ?_) (GrM.road) (some 43) rfl (by kernel_rfl) (by kernel_rfl) (by kernel_rfl) (by kernel_rfl) (by kernel_rfl) (fun _ _ _ h => h) (by kernel_rfl) (fun w' hw' => ?_) ?_
    rotate_left
    · go_simp; with_reducible rfl
    simp only [Act.put, List.setIfInBounds_toArray, List.set_cons_zero, List.set_cons_succ]
    refine wpR_take (i := 27) (v := ?_) (GrM.road) (some 44) rfl (by kernel_rfl) (by kernel_rfl) (by kernel_rfl) (by kernel_rfl) (by kernel_rfl) (fun _ _ _ h => h) (by kernel_rfl) (fun w' hw' => ?_) ?_
    rotate_left
    · go_simp; with_reducible rfl
    simp only [Act.put, List.setIfInBounds_toArray, List.set_cons_zero, List.set_cons_succ]
    refine wpR_one 28 rfl (by kernel_rfl) (by kernel_rfl) (fun K hK => ?_)
    go_simp
    refine (hdel.out _ hq22.out).mono ?_
    rintro e w' ⟨rfl, hee⟩
    rw [hee]
    clear hee
    refine hK _ _ (fun _ => GrM.refl _) ?_
    clear hK K
    try simp only [Act.put, List.setIfInBounds_toArray, List.set_cons_zero, List.set_cons_succ]
    refine wpR_take (i := 29) (v := ?_) (GrM.road) (some 46) rfl (by kernel_rfl) (by kernel_rfl) (by kernel_rfl) (by kernel_rfl) (by kernel_rfl) (fun _ _ _ h => h) (by kernel_rfl) (fun w' hw' => ?_) ?_
    rotate_left
    · go_simp; with_reducible rfl
    simp only [Act.put, List.setIfInBounds_toArray, List.set_cons_zero, List.set_cons_succ]
    refine wpR_take (i := 30) (v := ?_) (GrM.road) (some 47) rfl (by kernel_rfl) (by kernel_rfl) (by kernel_rfl) (by kernel_rfl) (by kernel_rfl) (fun _ _ _ h => h) (by kernel_rfl) (fun w' hw' => ?_) ?_
    rotate_left
    · go_simp; with_reducible rfl
    simp only [Act.put, List.setIfInBounds_toArray, List.set_cons_zero, List.set_cons_succ]
    refine wpR_take (i := 31) (v := ?_) (GrM.road) (some 0) rfl (by kernel_rfl) (by kernel_rfl) (by kernel_rfl) (by kernel_rfl) (by kernel_rfl) (fun _ _ _ h => h) (by kernel_rfl) (fun w' hw' => ?_) ?_
    rotate_left
    · go_simp; with_reducible rfl
    simp only [Act.put, List.setIfInBounds_toArray, List.set_cons_zero, List.set_cons_succ]
    refine wpR_done (by kernel_rfl) ?_ _
    go_wp2_with fail
    go_ret
    exact ⟨rfl, GrM.trans hgwd.out (by first | exact hq21.out | exact hq22.out)⟩
  · go_simp
    obtain ⟨g22, hg22⟩ : ∃ g22, wd.heap.size = g22 := ⟨_, rfl⟩
    obtain ⟨W22, hW22⟩ : ∃ W22, W22 = wd.alloc (.cells #[.int .u8 1, .int .u8 97, .int .u8 0, .int .u8 1, .int .u8 98, .int .u8 2, .int .u8 120, .int .u8 121] 5) := ⟨_, rfl⟩
    have hr22 : GrM wd W22 := by rw [hW22]; exact GrM.alloc _ _
    have hq22 : Hid (GrM wd W22) := Lib.hid (GrM.trans (GrM.refl wd) hr22)
    have hcv22 : Hid (∀ w', GrM W22 w' → (convert 29 9 (.slice (some ⟨g22, 0, none⟩) 8 8)).run Try.prog w' = .ok (.string ⟨#[1, 97, 0, 1, 98, 2, 120, 121]⟩) w') := Lib.hid (fun w' h => run_str_at (n := 8) (l := [1, 97, 0, 1, 98, 2, 120, 121]) 8 (by
      have hrd : Rd W22 W22.heap.size (some ⟨g22, 0, none⟩) [1, 97, 0, 1, 98, 2, 120, 121] := by rw [hW22, ← hg22]; exact Rd.lit _ _ _ _ rfl _ (by simp)
      exact hrd.below h) rfl)
    rw [← hW22, hg22]
    replace hW22 := Lib.hid hW22
    replace hg22 := Lib.hid hg22
    refine hK _ _ (fun _ => hr22) ?_
    clear hK K
    clear hr22
    try simp only [Act.put, List.setIfInBounds_toArray, List.set_cons_zero, List.set_cons_succ]
    refine wpR_take (i := 23) (v := ?_) (GrM.road) (some 40) rfl (by kernel_rfl) (by kernel_rfl) (by kernel_rfl) (by kernel_rfl) (by kernel_rfl) (fun _ _ _ h => h) (by kernel_rfl) (fun w' hw' => ?_) ?_
    rotate_left
    · have q := hcv22.out w' hw'; go_simp; with_reducible rfl
    simp only [Act.put, List.setIfInBounds_toArray, List.set_cons_zero, List.set_cons_succ]
    refine wpR_one 21 rfl (by kernel_rfl) (by kernel_rfl) (fun K hK => ?_)
    go_simp
    refine (htext.out _ hq22.out).mono ?_
    rintro e w21 ⟨rfl, hg21⟩
    refine hK _ _ (fun _ => hg21) ?_
    clear hK K
    have hq21 : Hid (GrM wd w21) := Lib.hid (GrM.trans hq22.out hg21)
    replace hcv22 : Hid (∀ w', GrM w21 w' → (convert 29 9 (.slice (some ⟨g22, 0, none⟩) 8 8)).run Try.prog w' = .ok (.string ⟨#[1, 97, 0, 1, 98, 2, 120, 121]⟩) w') := Lib.hid (fun w' h => hcv22.out w' (GrM.trans hg21 h))
    clear hg21
    try simp only [Act.put, List.setIfInBounds_toArray, List.set_cons_zero, List.set_cons_succ]
    refine wpR_take (i := 24) (v := ?_) (GrM.road) (some 41) rfl (by kernel_rfl) (by kernel_rfl) (by kernel_rfl) (by kernel_rfl) (by kernel_rfl) (fun _ _ _ h => h) (by kernel_rfl) (fun w' hw' => ?_) ?_
    rotate_left
    · go_simp; with_reducible rfl
    simp only [Act.put, List.setIfInBounds_toArray, List.set_cons_zero, List.set_cons_succ]
    refine wpR_take (i := 25) (v := ?_) (GrM.road) (some 42) rfl (by kernel_rfl) (by kernel_rfl) (by kernel_rfl) (by kernel_rfl) (by kernel_rfl) (fun _ _ _ h => h) (by kernel_rfl) (fun w' hw' => ?_) ?_
    rotate_left
    · go_simp; with_reducible rfl
    simp only [Act.put, List.setIfInBounds_toArray, List.set_cons_zero, List.set_cons_succ]
    refine wpR_take (i := 26) (v := ?_) (GrM.road) (some 43) rfl (by kernel_rfl) (by kernel_rfl) (by kernel_rfl) (by kernel_rfl) (by kernel_rfl) (fun _ _ _ h => h) (by kernel_rfl) (fun w' hw' => ?_) ?_
    rotate_left
    · go_simp; with_reducible rfl
    simp only [Act.put, List.setIfInBounds_toArray, List.set_cons_zero, List.set_cons_succ]
    refine wpR_take (i := 27) (v := ?_) (GrM.road) (some 44) rfl (by kernel_rfl) (by kernel_rfl) (by kernel_rfl) (by kernel_rfl) (by kernel_rfl) (fun _ _ _ h => h) (by kernel_rfl) (fun w' hw' => ?_) ?_
    rotate_left
    · go_simp; with_reducible rfl
    simp only [Act.put, List.setIfInBounds_toArray, List.set_cons_zero, List.set_cons_succ]
    refine wpR_one 28 rfl (by kernel_rfl) (by kernel_rfl) (fun K hK => ?_)
    go_simp
    refine (hdel.out _ hq21.out).mono ?_
    rintro e w' ⟨rfl, hee⟩
    rw [hee]
    clear hee
    refine hK _ _ (fun _ => GrM.refl _) ?_
    clear hK K
    try simp only [Act.put, List.setIfInBounds_toArray, List.set_cons_zero, List.set_cons_succ]
    refine wpR_take (i := 29) (v := ?_) (GrM.road) (some 46) rfl (by kernel_rfl) (by kernel_rfl) (by kernel_rfl) (by kernel_rfl) (by kernel_rfl) (fun _ _ _ h => h) (by kernel_rfl) (fun w' hw' => ?_) ?_
    rotate_left
    · go_simp; with_reducible rfl
    simp only [Act.put, List.setIfInBounds_toArray, List.set_cons_zero, List.set_cons_succ]
    refine wpR_take (i := 30) (v := ?_) (GrM.road) (some 47) rfl (by kernel_rfl) (by kernel_rfl) (by kernel_rfl) (by kernel_rfl) (by kernel_rfl) (fun _ _ _ h => h) (by kernel_rfl) (fun w' hw' => ?_) ?_
    rotate_left
    · go_simp; with_reducible rfl
    simp only [Act.put, List.setIfInBounds_toArray, List.set_cons_zero, List.set_cons_succ]
    refine wpR_take (i := 31) (v := ?_) (GrM.road) (some 0) rfl (by kernel_rfl) (by kernel_rfl) (by kernel_rfl) (by kernel_rfl) (by kernel_rfl) (fun _ _ _ h => h) (by kernel_rfl) (fun w' hw' => ?_) ?_
    rotate_left
    · go_simp; with_reducible rfl
    simp only [Act.put, List.setIfInBounds_toArray, List.set_cons_zero, List.set_cons_succ]
    refine wpR_done (by kernel_rfl) ?_ _
    go_wp2_with fail
    go_ret
    exact ⟨rfl, GrM.trans hgwd.out (by first | exact hq21.out | exact hq22.out)⟩
end Go.Proofs.Ytipdjchgdhfciaa
