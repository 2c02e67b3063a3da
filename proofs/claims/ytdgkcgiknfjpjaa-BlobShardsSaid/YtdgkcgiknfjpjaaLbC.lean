/- The laws of label: the fixed fact. -/
import Derived.Test.YtdgkcgiknfjpjaaLbB
import Derived.Test.YtdgkcgiknfjpjaaLbA
namespace Go.Proofs.Ytdgkcgiknfjpjaa
set_option linter.unusedVariables false
set_option linter.unusedSimpArgs false
open Go Go.RowKit
theorem ok_any (k c g a b d e : Int) (key sum data : List UInt8) (h : R64 k ∧ R64 c ∧ R64 g ∧ R64 a ∧ R64 b ∧ R64 d ∧ R64 e) (hk : key.length ≤ maxLen) (hs : sum.length ≤ maxLen) : (Rc.mk k c key g a b d e sum data).Ok :=
  ⟨h.1, h.2.1, h.2.2.1, h.2.2.2.1, h.2.2.2.2.1, h.2.2.2.2.2.1, h.2.2.2.2.2.2, hk, hs⟩
theorem okR1 : ((Rc.mk 1 5 [] 0 0 0 0 0 [] [])).Ok := ok_any _ _ _ _ _ _ _ _ _ _ (by unfold R64; decide) (by decide) (by decide)
theorem okR2 : ((Rc.mk 1 32 [] 0 0 0 0 0 [] [])).Ok := ok_any _ _ _ _ _ _ _ _ _ _ (by unfold R64; decide) (by decide) (by decide)
theorem okR3 : ((Rc.mk 3 0 [97] 300 0 0 0 0 [] [])).Ok := ok_any _ _ _ _ _ _ _ _ _ _ (by unfold R64; decide) (by decide) (by decide)
theorem gR1 : goodB (Rc.mk 1 5 [] 0 0 0 0 0 [] []) = true := by decide +kernel
theorem gR2 : goodB (Rc.mk 1 32 [] 0 0 0 0 0 [] []) = false := by decide +kernel
theorem gR3 : goodB (Rc.mk 3 0 [97] 300 0 0 0 0 [] []) = true := by decide +kernel
theorem eR1 : ∃ t, encB (Rc.mk 1 5 [] 0 0 0 0 0 [] []) = 107 :: 1 :: 5 :: t ∧ t.length = 4 := ⟨bytes4 (crc (flds (Rc.mk 1 5 [] 0 0 0 0 0 [] []))), by decide +kernel, rfl⟩
theorem eR3 : (encB (Rc.mk 3 0 [97] 300 0 0 0 0 [] [])).length = 4 + 6 := by decide +kernel
theorem eR3b : (encB (Rc.mk 3 0 [97] 300 0 0 0 0 [] []))[1]? = some 3 := by decide +kernel
theorem gsR3 : guess3 (((encB (Rc.mk 3 0 [97] 300 0 0 0 0 [] [])).drop 2).take 4) = (Rc.mk 3 0 [97] 300 0 0 0 0 [] []) := by decide +kernel
theorem same33 : sameR (Rc.mk 3 0 [97] 300 0 0 0 0 [] []) (Rc.mk 3 0 [97] 300 0 0 0 0 [] []) = true := by decide +kernel
theorem same30 : sameR (Rc.mk 3 0 [97] 300 0 0 0 0 [] []) (Rc.mk 0 0 [] 0 0 0 0 0 [] []) = false := by decide +kernel
end Go.Proofs.Ytdgkcgiknfjpjaa
/- The reference's Same. -/
namespace Go.Proofs.Ytdgkcgiknfjpjaa
set_option linter.unusedVariables false
set_option linter.unusedSimpArgs false
open Go Go.RowKit
set_option maxHeartbeats 8000000 in
set_option maxRecDepth 10000 in
theorem rsame_any (a b : Rc) (A A2 : Option Addr) (c c2 : Nat) (w : World) (h : Rd w w.heap.size A a.data) (h2 : Rd w w.heap.size A2 b.data) :
    Calls Try.prog 23 #[a.agg A c, b.agg A2 c2] w fun e w' => e = .returned (.bool (sameR a b)) ∧ Below w.heap.size w w' := by
  have hb1 := (Below.refl w.heap.size w).alloc (Nat.le_refl _) (.cells #[.int .i64 a.kind, .int .i64 a.cart, .string (bs a.key), .int .i64 a.gen, .int .i64 a.group, .int .i64 a.groups, .int .i64 a.index, .int .i64 a.size, .string (bs a.sum), .slice A a.data.length c] 41)
  have hb := Lib.hid (hb1.alloc hb1.size (.cells #[.int .i64 b.kind, .int .i64 b.cart, .string (bs b.key), .int .i64 b.gen, .int .i64 b.group, .int .i64 b.groups, .int .i64 b.index, .int .i64 b.size, .string (bs b.sum), .slice A2 b.data.length c2] 41))
  have hR := Lib.hid (h.up hb.out)
  have hR2 := Lib.hid (h2.up hb.out)
  have hv := sameR_eq a b
  clear hb1 h h2
  have cv1 := run_str_at c hR.out rfl
  have cv2 := run_str_at c2 hR2.out rfl
  unfold Rc.agg
  obtain ⟨k0, d0⟩ : ∃ k, (a.kind == b.kind) = k := ⟨_, rfl⟩
  have f0 : (a.kind != b.kind) = !k0 := by rw [bne, d0]
  rw [d0] at hv
  obtain ⟨k1, d1⟩ : ∃ k, (a.cart == b.cart) = k := ⟨_, rfl⟩
  have f1 : (a.cart != b.cart) = !k1 := by rw [bne, d1]
  rw [d1] at hv
  obtain ⟨k2, e2⟩ : ∃ k, (a.key == b.key) = k := ⟨_, rfl⟩
  have d2 : (bs a.key == bs b.key) = k2 := by rw [bs_beq, e2]
  have f2 : (bs a.key != bs b.key) = !k2 := by rw [bne, d2]
  have g2 : (a.key != b.key) = !k2 := by rw [bne, e2]
  rw [e2] at hv
  obtain ⟨k3, d3⟩ : ∃ k, (a.gen == b.gen) = k := ⟨_, rfl⟩
  have f3 : (a.gen != b.gen) = !k3 := by rw [bne, d3]
  rw [d3] at hv
  obtain ⟨k4, d4⟩ : ∃ k, (a.group == b.group) = k := ⟨_, rfl⟩
  have f4 : (a.group != b.group) = !k4 := by rw [bne, d4]
  rw [d4] at hv
  obtain ⟨k5, d5⟩ : ∃ k, (a.groups == b.groups) = k := ⟨_, rfl⟩
  have f5 : (a.groups != b.groups) = !k5 := by rw [bne, d5]
  rw [d5] at hv
  obtain ⟨k6, d6⟩ : ∃ k, (a.index == b.index) = k := ⟨_, rfl⟩
  have f6 : (a.index != b.index) = !k6 := by rw [bne, d6]
  rw [d6] at hv
  obtain ⟨k7, d7⟩ : ∃ k, (a.size == b.size) = k := ⟨_, rfl⟩
  have f7 : (a.size != b.size) = !k7 := by rw [bne, d7]
  rw [d7] at hv
  obtain ⟨k8, e8⟩ : ∃ k, (a.sum == b.sum) = k := ⟨_, rfl⟩
  have d8 : (bs a.sum == bs b.sum) = k8 := by rw [bs_beq, e8]
  have f8 : (bs a.sum != bs b.sum) = !k8 := by rw [bne, d8]
  have g8 : (a.sum != b.sum) = !k8 := by rw [bne, e8]
  rw [e8] at hv
  obtain ⟨k9, e9⟩ : ∃ k, (a.data == b.data) = k := ⟨_, rfl⟩
  have d9 : (bs a.data == bs b.data) = k9 := by rw [bs_beq, e9]
  have f9 : (bs a.data != bs b.data) = !k9 := by rw [bne, d9]
  have g9 : (a.data != b.data) = !k9 := by rw [bne, e9]
  rw [e9] at hv
  rw [hv]
  clear hv
  go_enter Try.func23, Try.ntmps23
  go_wp2
  all_goals (first | go_ret | (go_wp2; go_ret))
  all_goals refine ⟨congrArg (fun z => Ending.returned (Value.bool z)) ?_, hb.out⟩
  all_goals simp_all
end Go.Proofs.Ytdgkcgiknfjpjaa
/- The laws of label: LabelSames. -/
namespace Go.Proofs.Ytdgkcgiknfjpjaa
set_option linter.unusedVariables false
set_option linter.unusedSimpArgs false
open Go Go.RowKit
theorem sameR_self (a : Rc) : sameR a a = true := decide_eq_true rfl
end Go.Proofs.Ytdgkcgiknfjpjaa
/- Records of label: unlike records have unlike bytes. -/
namespace Go.Proofs.Ytdgkcgiknfjpjaa
set_option linter.unusedVariables false
open Go Go.RowKit
theorem enc_pre {n m : Nat} (hn : n ≤ 9223372036854775807) (hm : m ≤ 9223372036854775807) {l l' : List UInt8} (h : enc n ++ l = enc m ++ l') : n = m ∧ l = l' := by
  have h1 := lead_enc n hn l
  rw [h, lead_enc m hm l'] at h1
  injection h1 with h1
  injection h1 with h1 _
  subst h1
  exact ⟨rfl, List.append_cancel_left h⟩
theorem key_pre {k k' l l' : List UInt8} (hk : k.length ≤ 16) (hk' : k'.length ≤ 16) (h : enc k.length ++ (k ++ l) = enc k'.length ++ (k' ++ l')) : k = k' ∧ l = l' := by
  obtain ⟨h1, h2⟩ := enc_pre (by omega) (by omega) h
  exact List.append_inj h2 h1
theorem num_pre {x y : Int} (hx : 0 ≤ x) (hx2 : x ≤ 1099511627776) (hy : 0 ≤ y) (hy2 : y ≤ 1099511627776) {l l' : List UInt8} (h : enc x.toNat ++ l = enc y.toNat ++ l') : x = y ∧ l = l' := by
  obtain ⟨h1, h2⟩ := enc_pre (by omega) (by omega) h
  exact ⟨by omega, h2⟩
theorem flds_inj {a b : Rc} (ha : goodB a = true) (hb : goodB b = true) (h : flds a = flds b) : a = b := by
  unfold flds at h
  injection h with _ h
  injection h with hk h
  have hkk : a.kind = b.kind := by
    have h2 := congrArg UInt8.toNat hk
    rw [UInt8.toNat_ofNat', UInt8.toNat_ofNat'] at h2
    rcases good_kind ha with h3 | h3 | h3 <;> rcases good_kind hb with h4 | h4 | h4 <;> rw [h3, h4] at h2 <;> first | omega | (exfalso; revert h2; decide)
  rcases good_kind ha with h3 | h3 | h3
  · have h4 : b.kind = 1 := by rw [← hkk]; exact h3
    obtain ⟨a1, a2, a3⟩ := good1 ha h3
    obtain ⟨b1, b2, b3⟩ := good1 hb h4
    unfold body at h
    rw [if_pos h3, if_pos h4] at h
    have h5 : enc a.cart.toNat ++ [] = enc b.cart.toNat ++ [] := by simpa using h
    obtain ⟨h6, -⟩ := num_pre a1 (by omega) b1 (by omega) h5
    rw [a3, b3]
    unfold bare1
    rw [hkk, h6]
  · have h4 : b.kind = 2 := by rw [← hkk]; exact h3
    obtain ⟨ac, ak, ag, as_, agr, agp, ai, asl, adl, agg1, agg2⟩ := good2 ha h3
    obtain ⟨bc, bk, bg, bs_, bgr, bgp, bi, bsl, bdl, bgg1, bgg2⟩ := good2 hb h4
    unfold body at h
    rw [if_neg (by omega), if_neg (by omega), if_neg (by omega), if_neg (by omega)] at h
    simp only [List.append_assoc] at h
    obtain ⟨e1, h⟩ := key_pre ak.2 bk.2 h
    obtain ⟨e2, h⟩ := num_pre ag.1 ag.2 bg.1 bg.2 h
    obtain ⟨e3, h⟩ := num_pre agp.1 (by omega) bgp.1 (by omega) h
    obtain ⟨e4, h⟩ := num_pre (by omega) (by omega) (by omega) (by omega) h
    obtain ⟨e5, h⟩ := num_pre ai.1 (by omega) bi.1 (by omega) h
    obtain ⟨e6, h⟩ := num_pre as_.1 (by omega) bs_.1 (by omega) h
    obtain ⟨e7, e8⟩ := List.append_inj h (by omega)
    cases a
    cases b
    simp only at *
    simp [hkk, ac, bc, e1, e2, e3, e4, e5, e6, e7, e8]
  · have h4 : b.kind = 3 := by rw [← hkk]; exact h3
    obtain ⟨a1, a2, a3, a4⟩ := good3 ha h3
    obtain ⟨b1, b2, b3, b4⟩ := good3 hb h4
    unfold body at h
    rw [if_neg (by omega), if_pos h3, if_neg (by omega), if_pos h4] at h
    simp only [List.append_assoc] at h
    obtain ⟨e1, h⟩ := key_pre a1.2 b1.2 h
    have h5 : enc a.gen.toNat ++ [] = enc b.gen.toNat ++ [] := by simpa using h
    obtain ⟨e2, -⟩ := num_pre a2 a3 b2 b3 h5
    rw [a4, b4]
    unfold bare3
    rw [hkk, e1, e2]
theorem encB_inj {a b : Rc} (ha : goodB a = true) (hb : goodB b = true) : (encB a == encB b) = sameR a b := by
  unfold sameR
  rw [Bool.eq_iff_iff, beq_iff_eq, decide_eq_true_iff]
  refine ⟨fun h => flds_inj ha hb ?_, fun h => by rw [h]⟩
  unfold encB at h
  exact (List.append_inj' h rfl).1
end Go.Proofs.Ytdgkcgiknfjpjaa
/- Records of label: which bytes decode, and to what. -/
namespace Go.Proofs.Ytdgkcgiknfjpjaa
set_option linter.unusedVariables false
set_option linter.unusedSimpArgs false
open Go Go.RowKit
set_option maxHeartbeats 8000000 in
set_option maxRecDepth 20000 in
theorem decode_short (A : Option Addr) (n c : Nat) (b : List UInt8) (hn : b.length = n) (h6 : n < 6) (w : World) :
    Calls Try.prog 25 #[.slice A n c] w fun e w' => e = .returned (.tuple #[(.agg #[.int .i64 0, .int .i64 0, .string ⟨#[]⟩, .int .i64 0, .int .i64 0, .int .i64 0, .int .i64 0, .int .i64 0, .string ⟨#[]⟩, .slice none 0 0]), .int .i64 12]) ∧ Below w.heap.size w w' := by
  have hN9 := Lib.hid (heap_alloc_new w (.cells #[.int .i64 0, .int .i64 0, .string ⟨#[]⟩, .int .i64 0, .int .i64 0, .int .i64 0, .int .i64 0, .int .i64 0, .string ⟨#[]⟩, .slice none 0 0] 41))
  have hb9 := Lib.hid ((Below.refl w.heap.size w).alloc (Nat.le_refl _) (.cells #[.int .i64 0, .int .i64 0, .string ⟨#[]⟩, .int .i64 0, .int .i64 0, .int .i64 0, .int .i64 0, .int .i64 0, .string ⟨#[]⟩, .slice none 0 0] 41))
  have d6 : decide ((n : Int) < 6) = true := decide_eq_true (by omega)
  go_enter Try.func25, Try.ntmps25
  go_wp2_with fail
  have hz := hN9.out
  have hbz := hb9.out
  obtain ⟨w10, hw10⟩ : ∃ w10, w.alloc (.cells #[.int .i64 0, .int .i64 0, .string ⟨#[]⟩, .int .i64 0, .int .i64 0, .int .i64 0, .int .i64 0, .int .i64 0, .string ⟨#[]⟩, .slice none 0 0] 41) = w10 := ⟨_, rfl⟩
  rw [hw10] at hz hbz ⊢
  have r0 := blk_cell (j := 0) (v := .int .i64 0) hz rfl
  have r1 := blk_cell (j := 1) (v := .int .i64 0) hz rfl
  have r2 := blk_cell (j := 2) (v := .string ⟨#[]⟩) hz rfl
  have r3 := blk_cell (j := 3) (v := .int .i64 0) hz rfl
  have r4 := blk_cell (j := 4) (v := .int .i64 0) hz rfl
  have r5 := blk_cell (j := 5) (v := .int .i64 0) hz rfl
  have r6 := blk_cell (j := 6) (v := .int .i64 0) hz rfl
  have r7 := blk_cell (j := 7) (v := .int .i64 0) hz rfl
  have r8 := blk_cell (j := 8) (v := .string ⟨#[]⟩) hz rfl
  have r9 := blk_cell (j := 9) (v := .slice none 0 0) hz rfl
  exact bodyPost_ret (v := .tuple #[(.agg #[.int .i64 0, .int .i64 0, .string ⟨#[]⟩, .int .i64 0, .int .i64 0, .int .i64 0, .int .i64 0, .int .i64 0, .string ⟨#[]⟩, .slice none 0 0]), .int .i64 12]) (by simp [results, Try.results25, go_sem, r0, r1, r2, r3, r4, r5, r6, r7, r8, r9]) rfl ⟨rfl, hbz⟩
def decB (b : List UInt8) : Option Rc := if b.length < 6 then none else
  if goodB (guessR (U (b.getD 1 0)) ((b.drop 2).take (b.length - 6))) && (encB (guessR (U (b.getD 1 0)) ((b.drop 2).take (b.length - 6))) == b) then some (guessR (U (b.getD 1 0)) ((b.drop 2).take (b.length - 6))) else none
theorem decB_some {b : List UInt8} {q : Rc} (h : decB b = some q) : 6 ≤ b.length ∧ guessR (U (b.getD 1 0)) ((b.drop 2).take (b.length - 6)) = q ∧ goodB q = true ∧ encB q = b := by
  unfold decB at h
  split at h
  · cases h
  · rename_i h6
    split at h
    · rename_i hg
      injection h with h
      rw [h] at hg
      rw [Bool.and_eq_true, beq_iff_eq] at hg
      exact ⟨by omega, h, hg.1, hg.2⟩
    · cases h
theorem decode_some (A : Option Addr) (n c : Nat) (b : List UInt8) (hn : b.length = n) (hl : n ≤ 140737488355000) (hnc : n ≤ c) (hcm : c ≤ maxLen) (q : Rc) (h : decB b = some q) (w : World) (hr : Rd w w.heap.size A b) :
    Calls Try.prog 25 #[.slice A n c] w fun e w' => ∃ A9 c9, e = .returned (.tuple #[q.agg A9 c9, .int .i64 0]) ∧ Rd w' w'.heap.size A9 q.data ∧ (∀ ad, A9 = some ad → w.heap.size ≤ ad.block) ∧ q.data.length ≤ c9 ∧ c9 ≤ maxLen ∧ Below w.heap.size w w' := by
  obtain ⟨h6, hg3, hg, he⟩ := decB_some h
  obtain ⟨m, rfl⟩ : ∃ m, n = m + 6 := ⟨n - 6, by omega⟩
  have h1 : b[1]? = some (b.getD 1 0) := by rw [List.getElem?_eq_getElem (by omega)]; simp [List.getElem?_eq_getElem (show 1 < b.length by omega)]
  rw [hn, Nat.add_sub_cancel] at hg3
  exact decode_yes A m c b hn hnc hcm (by omega) _ h1 q hg3 hg (beq_iff_eq.mpr he) w hr
theorem decode_none (A : Option Addr) (n c : Nat) (b : List UInt8) (hn : b.length = n) (hl : n ≤ 140737488355000) (hnc : n ≤ c) (hcm : c ≤ maxLen) (h : decB b = none) (w : World) (hr : Rd w w.heap.size A b) :
    Calls Try.prog 25 #[.slice A n c] w fun e w' => e = .returned (.tuple #[(.agg #[.int .i64 0, .int .i64 0, .string ⟨#[]⟩, .int .i64 0, .int .i64 0, .int .i64 0, .int .i64 0, .int .i64 0, .string ⟨#[]⟩, .slice none 0 0]), .int .i64 12]) ∧ Below w.heap.size w w' := by
  by_cases h6 : n < 6
  · exact decode_short A n c b hn h6 w
  · obtain ⟨m, rfl⟩ : ∃ m, n = m + 6 := ⟨n - 6, by omega⟩
    have h1 : b[1]? = some (b.getD 1 0) := by rw [List.getElem?_eq_getElem (by omega)]; simp [List.getElem?_eq_getElem (show 1 < b.length by omega)]
    unfold decB at h
    rw [if_neg (by omega)] at h
    rw [hn, Nat.add_sub_cancel] at h
    split at h
    · cases h
    · rename_i hg
      rw [Bool.not_eq_true, Bool.and_eq_false_iff] at hg
      rcases Bool.eq_false_or_eq_true (goodB (guessR (U (b.getD 1 0)) ((b.drop 2).take m))) with hgt | hgf
      · have he : (encB (guessR (U (b.getD 1 0)) ((b.drop 2).take m)) == b) = false := by rcases hg with hg | hg; rw [hgt] at hg; cases hg; exact hg
        exact decode_ne A m c b hn hnc hcm (by omega) _ h1 _ rfl hgt he w hr
      · exact decode_ng A m c b hn hnc hcm (by omega) _ h1 _ rfl hgf w hr
theorem rget_enc {n : Nat} {most : Int} (hn : (n : Int) ≤ most) (hm : most ≤ 1099511627776) (l : List UInt8) : rget (some (enc n ++ l)) most = ((n : Int), some l) := by
  unfold rget
  simp only [lead_enc n (by omega) l, List.drop_left]
  rw [if_pos hn]
theorem rget_encz {x : Int} {most : Int} (h0 : 0 ≤ x) (hn : x ≤ most) (hm : most ≤ 1099511627776) (l : List UInt8) : rget (some (enc x.toNat ++ l)) most = (x, some l) := by
  rw [rget_enc (by omega) hm]
  congr 1
  omega
theorem rtext_enc {k : List UInt8} (hk : k.length ≤ 16) (l : List UInt8) : rtext (some (enc k.length ++ (k ++ l))) 16 = (k, some l) := by
  unfold rtext
  rw [rget_enc (by omega) (by decide)]
  simp
theorem enc_shape (q : Rc) : ∃ t, t.length = 4 ∧ encB q = 107 :: UInt8.ofNat q.kind.toNat :: (body q ++ t) := ⟨bytes4 (crc (flds q)), rfl, by unfold encB flds; rfl⟩
theorem guess_back {q : Rc} (hg : goodB q = true) : guessR q.kind (body q) = q := by
  unfold guessR
  rcases good_kind hg with hk | hk | hk
  · obtain ⟨a1, a2, a3⟩ := good1 hg hk
    rw [if_pos hk]
    unfold guess1 body
    rw [if_pos hk]
    have := rget_encz a1 a2 (by decide) []
    rw [List.append_nil] at this
    rw [this, a3]
    unfold bare1
    rw [hk]
  · obtain ⟨ac, ak, ag, as_, agr, agp, ai, asl, adl, agg1, agg2⟩ := good2 hg hk
    have hbg := groupsOf_bd9 q.size (inB_iff _ _ _ |>.mpr as_)
    have hg4 : q.groups ≤ 4 := by rw [agr]; unfold groupsOf; rw [if_pos (inB_iff _ _ _ |>.mpr as_)]; omega
    rw [if_neg (by omega), if_neg (by omega), if_pos hk]
    obtain ⟨pre, hpre⟩ : ∃ pre, enc q.key.length ++ (q.key ++ (enc q.gen.toNat ++ (enc q.group.toNat ++ (enc q.groups.toNat ++ (enc q.index.toNat ++ (enc q.size.toNat ++ [])))))) = pre := ⟨_, rfl⟩
    have hbody : body q = pre ++ (q.sum ++ q.data) := by
      unfold body
      rw [if_neg (by omega), if_neg (by omega), ← hpre]
      simp [List.append_assoc]
    have hlen : (body q).length = pre.length + 48 := by rw [hbody]; simp only [List.length_append]; omega
    unfold guess2
    rw [hlen, show pre.length + 48 - 48 = pre.length from by omega, show min (pre.length + 48) (pre.length + 32) = pre.length + 32 from by omega]
    unfold gs2
    have htake : (body q).take pre.length = pre := by rw [hbody, List.take_left]
    have hdrop : (body q).drop pre.length = q.sum ++ q.data := by rw [hbody, List.drop_left]
    have hdrop2 : (body q).drop (pre.length + 32) = q.data := by rw [← List.drop_drop, hdrop, ← asl, List.drop_left]
    rw [htake, hdrop, hdrop2, show pre.length + 32 - pre.length = 32 from by omega]
    have hts : (q.sum ++ q.data).take 32 = q.sum := by rw [← asl, List.take_left]
    rw [hts, ← hpre]
    simp only [rtext_enc ak.2, rget_encz ag.1 ag.2 (by decide : (1099511627776 : Int) ≤ 1099511627776), rget_encz agp.1 (show q.group ≤ 4 by omega) (by decide : (4 : Int) ≤ 1099511627776), rget_encz (show 0 ≤ q.groups by omega) hg4 (by decide : (4 : Int) ≤ 1099511627776), rget_encz ai.1 (show q.index ≤ 10 by omega) (by decide : (10 : Int) ≤ 1099511627776), rget_encz as_.1 as_.2 (by decide : (512 : Int) ≤ 1099511627776)]
    cases q
    simp only at *
    simp [hk, ac]
  · obtain ⟨b1, b2, b3, b4⟩ := good3 hg hk
    rw [if_neg (by omega), if_pos hk]
    unfold guess3 gs3 body
    rw [if_neg (by omega), if_pos hk]
    have h2 := rget_encz b2 b3 (by decide : (1099511627776 : Int) ≤ 1099511627776) []
    rw [List.append_nil] at h2
    rw [List.append_assoc]
    simp only [rtext_enc b1.2, h2]
    rw [b4]
    unfold bare3
    rw [hk]
theorem decB_enc {q : Rc} (hg : goodB q = true) : decB (encB q) = some q := by
  obtain ⟨t, ht, he⟩ := enc_shape q
  have hk : U (UInt8.ofNat q.kind.toNat) = q.kind := by rw [U_ofNat _ (by rcases good_kind hg with h | h | h <;> omega)]; rcases good_kind hg with h | h | h <;> omega
  have h1 : (encB q).getD 1 0 = UInt8.ofNat q.kind.toNat := by rw [he]; rfl
  have hlen : (encB q).length = (body q).length + 6 := by rw [he]; simp only [List.length_cons, List.length_append]; omega
  have h2 : ((encB q).drop 2).take ((encB q).length - 6) = body q := by
    rw [hlen, he]
    simp
  unfold decB
  rw [if_neg (by omega), h1, h2, hk, guess_back hg, hg]
  simp
theorem decB_iff {b : List UInt8} {q : Rc} : decB b = some q ↔ goodB q = true ∧ encB q = b :=
  ⟨fun h => ⟨(decB_some h).2.2.1, (decB_some h).2.2.2⟩, fun h => by rw [← h.2]; exact decB_enc h.1⟩
theorem decB_ok {b : List UInt8} {q : Rc} (h : decB b = some q) (hl : b.length ≤ 140737488355000) : q.Ok := by
  obtain ⟨-, h1, -, -⟩ := decB_some h
  rw [← h1]
  have hU := U_bd (b.getD 1 0)
  exact guessR_ok _ (by unfold R64; omega) _ (by rw [List.length_take, List.length_drop]; omega)
end Go.Proofs.Ytdgkcgiknfjpjaa
