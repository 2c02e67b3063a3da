/- Records of label: which bytes decode, and to what. -/
import Derived.Test.YticdkmnjolkacabLab14
import Derived.Test.YticdkmnjolkacabLab10
namespace Go.Proofs.Yticdkmnjolkacab
set_option linter.unusedVariables false
set_option linter.unusedSimpArgs false
open Go Go.RowKit
set_option maxHeartbeats 8000000 in
set_option maxRecDepth 20000 in
theorem decode_short (A : Option Addr) (n c : Nat) (b : List UInt8) (hn : b.length = n) (h6 : n < 6) (w : World) :
    Calls Try.prog 23 #[.slice A n c] w fun e w' => e = .returned (.tuple #[(.agg #[.int .i64 0, .int .i64 0, .string ⟨#[]⟩, .int .i64 0, .int .i64 0, .int .i64 0, .int .i64 0, .int .i64 0, .string ⟨#[]⟩, .slice none 0 0]), .int .i64 12]) ∧ Below w.heap.size w w' := by
  have hN9 := Lib.hid (heap_alloc_new w (.cells #[.int .i64 0, .int .i64 0, .string ⟨#[]⟩, .int .i64 0, .int .i64 0, .int .i64 0, .int .i64 0, .int .i64 0, .string ⟨#[]⟩, .slice none 0 0] 34))
  have hb9 := Lib.hid ((Below.refl w.heap.size w).alloc (Nat.le_refl _) (.cells #[.int .i64 0, .int .i64 0, .string ⟨#[]⟩, .int .i64 0, .int .i64 0, .int .i64 0, .int .i64 0, .int .i64 0, .string ⟨#[]⟩, .slice none 0 0] 34))
  have d6 : decide ((n : Int) < 6) = true := decide_eq_true (by omega)
  go_enter Try.func23, Try.ntmps23
  go_wp2_with fail
  have hz := hN9.out
  have hbz := hb9.out
  obtain ⟨w10, hw10⟩ : ∃ w10, w.alloc (.cells #[.int .i64 0, .int .i64 0, .string ⟨#[]⟩, .int .i64 0, .int .i64 0, .int .i64 0, .int .i64 0, .int .i64 0, .string ⟨#[]⟩, .slice none 0 0] 34) = w10 := ⟨_, rfl⟩
  rw [hw10] at hz hbz ⊢
  have r0 := blk_cell (j := 0) (v := .int .i64 0) hz rfl
  have r1 := blk_cell (j := 1) (v := .int .i64 0) hz rfl
  have r2 := blk_cell (j := 2) (v := .string ⟨#[]⟩) hz rfl
  have r3 := blk_cell (j := 3) (v := .int .i64 0) hz rfl
  have r4 := blk_cell (j := 4) (v := .int .i64 0) hz rfl
  have r5 := blk_cell (j := 5) (v := .int .i64 0) hz rfl
  have r6 := blk_cell (j := 6) (v := .int .i64 0) hz rfl
  have r7 := blk_cell (j := 7) (v := .int .i64 0) hz rfl
  have r8 := blk_cell (j := 8) (v := .string ⟨#[]⟩) hz rfl
  have r9 := blk_cell (j := 9) (v := .slice none 0 0) hz rfl
  exact bodyPost_ret (v := .tuple #[(.agg #[.int .i64 0, .int .i64 0, .string ⟨#[]⟩, .int .i64 0, .int .i64 0, .int .i64 0, .int .i64 0, .int .i64 0, .string ⟨#[]⟩, .slice none 0 0]), .int .i64 12]) (by simp [results, Try.results23, go_sem, r0, r1, r2, r3, r4, r5, r6, r7, r8, r9]) rfl ⟨rfl, hbz⟩
def decB (b : List UInt8) : Option Rc := if b.length < 6 then none else
  if goodB (guessR (U (b.getD 1 0)) ((b.drop 2).take (b.length - 6))) && (encB (guessR (U (b.getD 1 0)) ((b.drop 2).take (b.length - 6))) == b) then some (guessR (U (b.getD 1 0)) ((b.drop 2).take (b.length - 6))) else none
theorem decB_some {b : List UInt8} {q : Rc} (h : decB b = some q) : 6 ≤ b.length ∧ guessR (U (b.getD 1 0)) ((b.drop 2).take (b.length - 6)) = q ∧ goodB q = true ∧ encB q = b := by
  unfold decB at h
  split at h
  · cases h
  · rename_i h6
    split at h
    · rename_i hg
      injection h with h
      rw [h] at hg
      rw [Bool.and_eq_true, beq_iff_eq] at hg
      exact ⟨by omega, h, hg.1, hg.2⟩
    · cases h
theorem decode_some (A : Option Addr) (n c : Nat) (b : List UInt8) (hn : b.length = n) (hl : n ≤ 140737488355000) (hnc : n ≤ c) (hcm : c ≤ maxLen) (q : Rc) (h : decB b = some q) (w : World) (hr : Rd w w.heap.size A b) :
    Calls Try.prog 23 #[.slice A n c] w fun e w' => ∃ A9 c9, e = .returned (.tuple #[q.agg A9 c9, .int .i64 0]) ∧ Rd w' w'.heap.size A9 q.data ∧ Below w.heap.size w w' := by
  obtain ⟨h6, hg3, hg, he⟩ := decB_some h
  obtain ⟨m, rfl⟩ : ∃ m, n = m + 6 := ⟨n - 6, by omega⟩
  have h1 : b[1]? = some (b.getD 1 0) := by rw [List.getElem?_eq_getElem (by omega)]; simp [List.getElem?_eq_getElem (show 1 < b.length by omega)]
  rw [hn, Nat.add_sub_cancel] at hg3
  exact decode_yes A m c b hn hnc hcm (by omega) _ h1 q hg3 hg (beq_iff_eq.mpr he) w hr
theorem decode_none (A : Option Addr) (n c : Nat) (b : List UInt8) (hn : b.length = n) (hl : n ≤ 140737488355000) (hnc : n ≤ c) (hcm : c ≤ maxLen) (h : decB b = none) (w : World) (hr : Rd w w.heap.size A b) :
    Calls Try.prog 23 #[.slice A n c] w fun e w' => e = .returned (.tuple #[(.agg #[.int .i64 0, .int .i64 0, .string ⟨#[]⟩, .int .i64 0, .int .i64 0, .int .i64 0, .int .i64 0, .int .i64 0, .string ⟨#[]⟩, .slice none 0 0]), .int .i64 12]) ∧ Below w.heap.size w w' := by
  by_cases h6 : n < 6
  · exact decode_short A n c b hn h6 w
  · obtain ⟨m, rfl⟩ : ∃ m, n = m + 6 := ⟨n - 6, by omega⟩
    have h1 : b[1]? = some (b.getD 1 0) := by rw [List.getElem?_eq_getElem (by omega)]; simp [List.getElem?_eq_getElem (show 1 < b.length by omega)]
    unfold decB at h
    rw [if_neg (by omega)] at h
    rw [hn, Nat.add_sub_cancel] at h
    split at h
    · cases h
    · rename_i hg
      rw [Bool.not_eq_true, Bool.and_eq_false_iff] at hg
      rcases Bool.eq_false_or_eq_true (goodB (guessR (U (b.getD 1 0)) ((b.drop 2).take m))) with hgt | hgf
      · have he : (encB (guessR (U (b.getD 1 0)) ((b.drop 2).take m)) == b) = false := by rcases hg with hg | hg; rw [hgt] at hg; cases hg; exact hg
        exact decode_ne A m c b hn hnc hcm (by omega) _ h1 _ rfl hgt he w hr
      · exact decode_ng A m c b hn hnc hcm (by omega) _ h1 _ rfl hgf w hr
theorem rget_enc {n : Nat} {most : Int} (hn : (n : Int) ≤ most) (hm : most ≤ 1099511627776) (l : List UInt8) : rget (some (enc n ++ l)) most = ((n : Int), some l) := by
  unfold rget
  simp only [lead_enc n (by omega) l, List.drop_left]
  rw [if_pos hn]
theorem rget_encz {x : Int} {most : Int} (h0 : 0 ≤ x) (hn : x ≤ most) (hm : most ≤ 1099511627776) (l : List UInt8) : rget (some (enc x.toNat ++ l)) most = (x, some l) := by
  rw [rget_enc (by omega) hm]
  congr 1
  omega
theorem rtext_enc {k : List UInt8} (hk : k.length ≤ 16) (l : List UInt8) : rtext (some (enc k.length ++ (k ++ l))) 16 = (k, some l) := by
  unfold rtext
  rw [rget_enc (by omega) (by decide)]
  simp
theorem enc_shape (q : Rc) : ∃ t, t.length = 4 ∧ encB q = 107 :: UInt8.ofNat q.kind.toNat :: (body q ++ t) := ⟨bytes4 (crc (flds q)), rfl, by unfold encB flds; rfl⟩
theorem guess_back {q : Rc} (hg : goodB q = true) : guessR q.kind (body q) = q := by
  unfold guessR
  rcases good_kind hg with hk | hk | hk
  · obtain ⟨a1, a2, a3⟩ := good1 hg hk
    rw [if_pos hk]
    unfold guess1 body
    rw [if_pos hk]
    have := rget_encz a1 a2 (by decide) []
    rw [List.append_nil] at this
    rw [this, a3]
    unfold bare1
    rw [hk]
  · obtain ⟨ac, ak, ag, as_, agr, agp, ai, asl, adl, agg1, agg2⟩ := good2 hg hk
    have hbg := groupsOf_bd q.size (inB_iff _ _ _ |>.mpr as_)
    have hg4 : q.groups ≤ 4 := by rw [agr]; unfold groupsOf; rw [if_pos (inB_iff _ _ _ |>.mpr as_)]; omega
    rw [if_neg (by omega), if_neg (by omega), if_pos hk]
    obtain ⟨pre, hpre⟩ : ∃ pre, enc q.key.length ++ (q.key ++ (enc q.gen.toNat ++ (enc q.group.toNat ++ (enc q.groups.toNat ++ (enc q.index.toNat ++ (enc q.size.toNat ++ [])))))) = pre := ⟨_, rfl⟩
    have hbody : body q = pre ++ (q.sum ++ q.data) := by
      unfold body
      rw [if_neg (by omega), if_neg (by omega), ← hpre]
      simp [List.append_assoc]
    have hlen : (body q).length = pre.length + 48 := by rw [hbody]; simp only [List.length_append]; omega
    unfold guess2
    rw [hlen, show pre.length + 48 - 48 = pre.length from by omega, show min (pre.length + 48) (pre.length + 32) = pre.length + 32 from by omega]
    unfold gs2
    have htake : (body q).take pre.length = pre := by rw [hbody, List.take_left]
    have hdrop : (body q).drop pre.length = q.sum ++ q.data := by rw [hbody, List.drop_left]
    have hdrop2 : (body q).drop (pre.length + 32) = q.data := by rw [← List.drop_drop, hdrop, ← asl, List.drop_left]
    rw [htake, hdrop, hdrop2, show pre.length + 32 - pre.length = 32 from by omega]
    have hts : (q.sum ++ q.data).take 32 = q.sum := by rw [← asl, List.take_left]
    rw [hts, ← hpre]
    simp only [rtext_enc ak.2, rget_encz ag.1 ag.2 (by decide : (1099511627776 : Int) ≤ 1099511627776), rget_encz agp.1 (show q.group ≤ 4 by omega) (by decide : (4 : Int) ≤ 1099511627776), rget_encz (show 0 ≤ q.groups by omega) hg4 (by decide : (4 : Int) ≤ 1099511627776), rget_encz ai.1 (show q.index ≤ 10 by omega) (by decide : (10 : Int) ≤ 1099511627776), rget_encz as_.1 as_.2 (by decide : (512 : Int) ≤ 1099511627776)]
    cases q
    simp only at *
    simp [hk, ac]
  · obtain ⟨b1, b2, b3, b4⟩ := good3 hg hk
    rw [if_neg (by omega), if_pos hk]
    unfold guess3 gs3 body
    rw [if_neg (by omega), if_pos hk]
    have h2 := rget_encz b2 b3 (by decide : (1099511627776 : Int) ≤ 1099511627776) []
    rw [List.append_nil] at h2
    rw [List.append_assoc]
    simp only [rtext_enc b1.2, h2]
    rw [b4]
    unfold bare3
    rw [hk]
theorem decB_enc {q : Rc} (hg : goodB q = true) : decB (encB q) = some q := by
  obtain ⟨t, ht, he⟩ := enc_shape q
  have hk : U (UInt8.ofNat q.kind.toNat) = q.kind := by rw [U_ofNat _ (by rcases good_kind hg with h | h | h <;> omega)]; rcases good_kind hg with h | h | h <;> omega
  have h1 : (encB q).getD 1 0 = UInt8.ofNat q.kind.toNat := by rw [he]; rfl
  have hlen : (encB q).length = (body q).length + 6 := by rw [he]; simp only [List.length_cons, List.length_append]; omega
  have h2 : ((encB q).drop 2).take ((encB q).length - 6) = body q := by
    rw [hlen, he]
    simp
  unfold decB
  rw [if_neg (by omega), h1, h2, hk, guess_back hg, hg]
  simp
theorem decB_iff {b : List UInt8} {q : Rc} : decB b = some q ↔ goodB q = true ∧ encB q = b :=
  ⟨fun h => ⟨(decB_some h).2.2.1, (decB_some h).2.2.2⟩, fun h => by rw [← h.2]; exact decB_enc h.1⟩
theorem decB_ok {b : List UInt8} {q : Rc} (h : decB b = some q) (hl : b.length ≤ 140737488355000) : q.Ok := by
  obtain ⟨-, h1, -, -⟩ := decB_some h
  rw [← h1]
  have hU := U_bd (b.getD 1 0)
  exact guessR_ok _ (by unfold R64; omega) _ (by rw [List.length_take, List.length_drop]; omega)
end Go.Proofs.Yticdkmnjolkacab
