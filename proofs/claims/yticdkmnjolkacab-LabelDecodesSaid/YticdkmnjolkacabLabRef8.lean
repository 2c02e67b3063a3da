/- The reference's Decode, plainly, is Decode; its number and Word walked. -/
import Derived.Test.YticdkmnjolkacabLabRef7
import Derived.Test.YticdkmnjolkacabLab17
namespace Go.Proofs.Yticdkmnjolkacab
set_option linter.unusedVariables false
set_option linter.unusedSimpArgs false
open Go Go.RowKit
theorem dec_facts {b : List UInt8} {r : Rc} (h : decB b = some r) : goodB r = true ∧ 6 ≤ b.length ∧ b.length ≤ 204 ∧ b.getD 0 0 = 107 ∧ U (b.getD 1 0) = r.kind ∧ b.drop 2 = body r ++ bytes4 (crc (flds r)) ∧ (∀ q, b.drop q = bytes4 (crc (flds r)) → sealS b q) := by
  obtain ⟨hg, he⟩ := decB_iff.mp h
  have hl := encB_len hg
  have h6 := (decB_some h).1
  have hsh : encB r = 107 :: UInt8.ofNat r.kind.toNat :: (body r ++ bytes4 (crc (flds r))) := rfl
  have hk : U (UInt8.ofNat r.kind.toNat) = r.kind := by rw [U_ofNat _ (by rcases good_kind hg with h | h | h <;> omega)]; rcases good_kind hg with h | h | h <;> omega
  rw [he] at hl hsh
  refine ⟨hg, h6, hl, by rw [hsh]; rfl, by rw [hsh]; exact hk, by rw [hsh]; rfl, fun q hq => ?_⟩
  have hq4 : b.length = q + 4 := by
    have := congrArg List.length hq
    rw [List.length_drop] at this
    have h4 : (bytes4 (crc (flds r))).length = 4 := rfl
    omega
  have htk : b.take q = flds r := by
    have e : b = flds r ++ bytes4 (crc (flds r)) := he.symm
    exact take_of_drop e hq.symm (by omega)
  exact ⟨hq4, by rw [htk]; exact hq⟩
def DecAs (b : List UInt8) (R : Rc) (st : Option Nat) : Prop := decB b = match st with | none => none | some q => if goodB R = true ∧ sealS b q then some R else none
theorem decAs_1 {b : List UInt8} (h6 : 6 ≤ b.length) (h0 : b.getD 0 0 = 107) (hk : U (b.getD 1 0) = 1) : DecAs b ⟨1, (numS b (some 2)).1, [], 0, 0, 0, 0, 0, [], []⟩ (numS b (some 2)).2 := by
  unfold DecAs
  cases h : decB b with
  | some r =>
    obtain ⟨hg, -, -, -, hk2, hd, hs⟩ := dec_facts h
    have hr1 : r.kind = 1 := by omega
    obtain ⟨a1, a2, a3⟩ := good1 hg hr1
    have hb : body r = enc r.cart.toNat := by unfold body; rw [if_pos hr1]
    rw [hb] at hd
    obtain ⟨e1, e2⟩ := numS_enc a1 (by omega) hd
    have hrr : (⟨1, r.cart, [], 0, 0, 0, 0, 0, [], []⟩ : Rc) = r := by rw [a3]; unfold bare1; rw [hr1]
    rw [e1]
    simp only
    rw [hrr, if_pos ⟨hg, hs _ e2⟩]
  | none =>
    cases hst : (numS b (some 2)).2 with
    | none => rfl
    | some q =>
      simp only
      split
      · rename_i hgs
        obtain ⟨hg, hs⟩ := hgs
        exfalso
        have he : numS b (some 2) = ((numS b (some 2)).1, some q) := by rw [← hst]
        obtain ⟨q2, e1, e2, e3, e4, e5⟩ := numS_some he
        injection e1 with e1
        subst e1
        obtain ⟨n, hn⟩ : ∃ n, (numS b (some 2)).1 = n := ⟨_, rfl⟩
        rw [hn] at e2 hg
        have hf : flds ⟨1, n, [], 0, 0, 0, 0, 0, [], []⟩ = b.take q := by
          refine (take_of_drop (x := b.drop q) ?_ rfl (by have := hs.1; omega)).symm
          have hh := head2 h6 h0 hk
          rw [e2] at hh
          exact hh
        have := decB_iff.mpr ⟨hg, encB_at hs hf⟩
        rw [h] at this
        cases this
      · rfl
theorem decAs_3 {b : List UInt8} (h6 : 6 ≤ b.length) (h0 : b.getD 0 0 = 107) (hk1 : U (b.getD 1 0) ≠ 1) (hk2 : U (b.getD 1 0) ≠ 2) : DecAs b ⟨U (b.getD 1 0), 0, (wordS b).1, (numS b (wordS b).2).1, 0, 0, 0, 0, [], []⟩ (numS b (wordS b).2).2 := by
  unfold DecAs
  cases h : decB b with
  | some r =>
    obtain ⟨hg, -, -, -, hk, hd, hs⟩ := dec_facts h
    have hr3 : r.kind = 3 := by rcases good_kind hg with h | h | h <;> omega
    obtain ⟨b1, b2, b3, b4⟩ := good3 hg hr3
    have hb : body r = enc r.key.length ++ (r.key ++ enc r.gen.toNat) := by unfold body; rw [if_neg (by omega), if_pos hr3, List.append_assoc]
    rw [hb, List.append_assoc, List.append_assoc] at hd
    obtain ⟨q, e1, e2⟩ := wordS_enc b1.2 hd (by omega)
    obtain ⟨e3, e4⟩ := numS_enc b2 b3 e2
    have hrr : (⟨U (b.getD 1 0), 0, r.key, r.gen, 0, 0, 0, 0, [], []⟩ : Rc) = r := by rw [b4]; unfold bare3; rw [hk]
    rw [e1]
    simp only
    rw [e3]
    simp only
    rw [hrr, if_pos ⟨hg, hs _ e4⟩]
  | none =>
    cases hst : (numS b (wordS b).2).2 with
    | none => rfl
    | some q =>
      simp only
      split
      · rename_i hgs
        obtain ⟨hg, hs⟩ := hgs
        exfalso
        have he : numS b (wordS b).2 = ((numS b (wordS b).2).1, some q) := by rw [← hst]
        obtain ⟨q2, e1, e2, e3, e4, e5⟩ := numS_some he
        have hw : wordS b = ((wordS b).1, some q2) := by rw [← e1]
        obtain ⟨w1, w2, w3⟩ := wordS_some hw
        obtain ⟨n, hn⟩ : ∃ n, (numS b (wordS b).2).1 = n := ⟨_, rfl⟩
        obtain ⟨ky, hky⟩ : ∃ n, (wordS b).1 = n := ⟨_, rfl⟩
        obtain ⟨kd, hkd⟩ : ∃ n, U (b.getD 1 0) = n := ⟨_, rfl⟩
        rw [hn] at e2 hg
        rw [hky] at w1 w2 hg
        rw [hkd] at hg hk1 hk2
        have h3 : kd = 3 := by rcases good_kind hg with h | h | h <;> simp only at h <;> omega
        have hf : flds ⟨kd, 0, ky, n, 0, 0, 0, 0, [], []⟩ = b.take q := by
          refine (take_of_drop (x := b.drop q) ?_ rfl (by have := hs.1; omega)).symm
          have hh := head2 h6 h0 hkd
          rw [w1, e2] at hh
          refine hh.trans ?_
          rw [h3]
          unfold flds body
          simp
        have := decB_iff.mpr ⟨hg, encB_at hs hf⟩
        rw [h] at this
        cases this
      · rfl
def withSD (R : Rc) (b : List UInt8) (q : Nat) : Rc := ⟨R.kind, R.cart, R.key, R.gen, R.group, R.groups, R.index, R.size, (b.drop q).take 32, (b.drop (q + 32)).take 16⟩
theorem decAs_2 {b : List UInt8} (h6 : 6 ≤ b.length) (h0 : b.getD 0 0 = 107) (hk : U (b.getD 1 0) = 2) :
    decB b = match (shardS b).2 with | none => none | some q => if b.length = q + 52 ∧ goodB (withSD (shardS b).1 b q) = true ∧ sealS b (q + 48) then some (withSD (shardS b).1 b q) else none := by
  unfold shardS
  simp only
  cases h : decB b with
  | some r =>
    obtain ⟨hg, -, -, -, hkk, hd, hs⟩ := dec_facts h
    have hr2 : r.kind = 2 := by omega
    obtain ⟨ac, ak, ag, as_, agr, agp, ai, asl, adl, agg1, agg2⟩ := good2 hg hr2
    have hb : body r = enc r.key.length ++ (r.key ++ (enc r.gen.toNat ++ (enc r.group.toNat ++ (enc r.groups.toNat ++ (enc r.index.toNat ++ (enc r.size.toNat ++ (r.sum ++ r.data))))))) := by unfold body; rw [if_neg (by omega), if_neg (by omega)]; simp only [List.append_assoc]
    rw [hb] at hd
    simp only [List.append_assoc] at hd
    obtain ⟨q0, e1, d1⟩ := wordS_enc ak.2 hd (by omega)
    obtain ⟨e2, d2⟩ := numS_enc ag.1 ag.2 d1
    obtain ⟨e3, d3⟩ := numS_enc agp.1 (by omega) d2
    obtain ⟨e4, d4⟩ := numS_enc (show 0 ≤ r.groups by omega) (by omega) d3
    obtain ⟨e5, d5⟩ := numS_enc ai.1 (by omega) d4
    obtain ⟨e6, d6⟩ := numS_enc as_.1 (by omega) d5
    rw [e1]
    simp only
    rw [e2]
    simp only
    rw [e3]
    simp only
    rw [e4]
    simp only
    rw [e5]
    simp only
    rw [e6]
    simp only
    obtain ⟨q, hq⟩ : ∃ q, q0 + (enc r.gen.toNat).length + (enc r.group.toNat).length + (enc r.groups.toNat).length + (enc r.index.toNat).length + (enc r.size.toNat).length = q := ⟨_, rfl⟩
    rw [hq] at d6 ⊢
    have hlen : b.length = q + 52 := by
      have := congrArg List.length d6
      have h4 : (bytes4 (crc (flds r))).length = 4 := rfl
      rw [List.length_drop] at this
      simp only [List.length_append] at this
      omega
    have t1 : (b.drop q).take 32 = r.sum := by rw [d6, ← asl, List.take_left]
    have d7 : b.drop (q + 32) = r.data ++ bytes4 (crc (flds r)) := by rw [← List.drop_drop, d6, ← asl, List.drop_left]
    have t2 : (b.drop (q + 32)).take 16 = r.data := by rw [d7, ← adl, List.take_left]
    have d8 : b.drop (q + 48) = bytes4 (crc (flds r)) := by rw [show q + 48 = (q + 32) + 16 from by omega, ← List.drop_drop, d7, ← adl, List.drop_left]
    have hrr : withSD ⟨2, 0, r.key, r.gen, r.group, r.groups, r.index, r.size, [], []⟩ b q = r := by
      unfold withSD
      simp only [t1, t2]
      cases r
      simp only at *
      simp [hr2, ac]
    rw [hrr, if_pos ⟨hlen, hg, hs _ d8⟩]
  | none =>
    cases hst : (numS b (numS b (numS b (numS b (numS b (wordS b).2).2).2).2).2).2 with
    | none => rfl
    | some q =>
      simp only
      split
      · rename_i hgs
        obtain ⟨hlen, hg, hs⟩ := hgs
        exfalso
        have he6 : numS b (numS b (numS b (numS b (numS b (wordS b).2).2).2).2).2 = ((numS b (numS b (numS b (numS b (numS b (wordS b).2).2).2).2).2).1, some q) := by rw [← hst]
        obtain ⟨q5, x5, y5, -, -, -⟩ := numS_some he6
        have he5 : numS b (numS b (numS b (numS b (wordS b).2).2).2).2 = ((numS b (numS b (numS b (numS b (wordS b).2).2).2).2).1, some q5) := by rw [← x5]
        obtain ⟨q4, x4, y4, -, -, -⟩ := numS_some he5
        have he4 : numS b (numS b (numS b (wordS b).2).2).2 = ((numS b (numS b (numS b (wordS b).2).2).2).1, some q4) := by rw [← x4]
        obtain ⟨q3, x3, y3, -, -, -⟩ := numS_some he4
        have he3 : numS b (numS b (wordS b).2).2 = ((numS b (numS b (wordS b).2).2).1, some q3) := by rw [← x3]
        obtain ⟨q2, x2, y2, -, -, -⟩ := numS_some he3
        have he2 : numS b (wordS b).2 = ((numS b (wordS b).2).1, some q2) := by rw [← x2]
        obtain ⟨q1, x1, y1, -, -, -⟩ := numS_some he2
        have hw : wordS b = ((wordS b).1, some q1) := by rw [← x1]
        obtain ⟨w1, w2, w3⟩ := wordS_some hw
        have hd48 : b.drop q = (b.drop q).take 32 ++ ((b.drop (q + 32)).take 16 ++ b.drop (q + 48)) := by
          have x1 : b.drop (q + 32) = (b.drop q).drop 32 := by rw [List.drop_drop]
          have x2 : b.drop (q + 48) = (b.drop (q + 32)).drop 16 := by rw [List.drop_drop]
          rw [x2, List.take_append_drop, x1, List.take_append_drop]
        have hf : flds (withSD ⟨2, 0, (wordS b).1, (numS b (wordS b).2).1, (numS b (numS b (wordS b).2).2).1, (numS b (numS b (numS b (wordS b).2).2).2).1, (numS b (numS b (numS b (numS b (wordS b).2).2).2).2).1, (numS b (numS b (numS b (numS b (numS b (wordS b).2).2).2).2).2).1, [], []⟩ b q) = b.take (q + 48) := by
          refine (take_of_drop (x := b.drop (q + 48)) ?_ rfl (by omega)).symm
          have hh := head2 h6 h0 hk
          rw [w1, y1, y2, y3, y4, y5, hd48] at hh
          unfold withSD flds body
          simp only
          rw [if_neg (by decide), if_neg (by decide)]
          simp only [List.cons_append, List.append_assoc]
          exact hh
        have := decB_iff.mpr ⟨hg, encB_at hs hf⟩
        rw [h] at this
        cases this
      · rfl
theorem decB_long {b : List UInt8} (h : 256 < b.length) : decB b = none := by
  cases hd : decB b with
  | none => rfl
  | some r => have := (dec_facts hd).2.2.1; omega
theorem decB_head {b : List UInt8} (h : b.getD 0 0 ≠ 107) : decB b = none := by
  cases hd : decB b with
  | none => rfl
  | some r => exact absurd (dec_facts hd).2.2.2.1 h
theorem decB_less {b : List UInt8} (h : b.length < 6) : decB b = none := by
  unfold decB
  rw [if_pos h]
def StOk (st : Option Nat) (k : Nat) : Prop := ∀ q, st = some q → q ≤ k
theorem StOk.num {b : List UInt8} {st : Option Nat} {k : Nat} (hk : b.length = k) (h : StOk st k) : StOk (numS b st).2 k := by
  intro q' e
  have he : numS b st = ((numS b st).1, some q') := by rw [← e]
  obtain ⟨q, e1, -, -, -, e5⟩ := numS_some he
  have := h q e1
  have := e5 (by omega)
  omega
theorem StOk.word {b : List UInt8} {k : Nat} (hk : b.length = k) : StOk (wordS b).2 k := by
  intro q' e
  have he : wordS b = ((wordS b).1, some q') := by rw [← e]
  have := (wordS_some he).2.2
  omega
theorem rnum_S (b : List UInt8) (q : Nat) : rnum b q 1099511627776 = ((numS b (some q)).1, atv (numS b (some q)).2) := by
  unfold rnum
  cases hl : lead (b.drop q) with
  | none => simp [numS, hl, atv]
  | some p =>
    obtain ⟨n, k⟩ := p
    simp only [numS, hl]
    split <;> simp [atv]
theorem rnumber_any (A : Option Addr) (k c : Nat) (b : List UInt8) (hk : b.length = k) (hl : k ≤ 140737488355328) (st : Option Nat) (hst : StOk st k) (w : World) (hr : Rd w w.heap.size A b) :
    Calls Try.prog 45 #[.slice A k c, .int .i64 (atv st)] w fun e w' => e = .returned (.tuple #[.int .i64 (numS b st).1, .int .i64 (atv (numS b st).2)]) ∧ w = w' := by
  cases st with
  | none =>
    go_enter Try.func45, Try.ntmps45
    unfold atv
    go_wp2
    go_ret2
    exact ⟨rfl, rfl⟩
  | some q =>
    have hN := rnum_any A k c b hk hl q (hst q rfl) 1099511627776 w hr
    rw [rnum_S] at hN
    replace hN := Lib.hid hN
    have hd : decide ((q : Int) < 0) = false := decide_eq_false (by omega)
    show Calls Try.prog 45 #[.slice A k c, .int .i64 (q : Int)] w _
    go_enter Try.func45, Try.ntmps45
    go_wp2_with fail
    refine (hN.out).mono ?_
    rintro e w' ⟨rfl, rfl⟩
    go_wp2_with fail
    go_ret2
    exact ⟨rfl, rfl⟩
theorem rwordS_any (A : Option Addr) (k c : Nat) (b : List UInt8) (hk : b.length = k) (hl : k ≤ 140737488355328) (hkc : k ≤ c) (h2 : 2 ≤ k) (w : World) (hr : Rd w w.heap.size A b) :
    Calls Try.prog 46 #[.slice A k c, .int .i64 2, .int .i64 16] w fun e w' => e = .returned (.tuple #[.string (bs (wordS b).1), .int .i64 (atv (wordS b).2)]) ∧ w = w' := by
  refine (rword_any A k c b hk hl hkc 2 h2 16 w hr).mono ?_
  rintro e w' ⟨⟨s, p, rfl, hp⟩, rfl⟩
  refine ⟨?_, rfl⟩
  rcases hp with ⟨rfl, rfl, ht⟩ | ⟨q, rfl, hq, ht⟩
  · unfold wordS
    rw [ht]
    rfl
  · unfold wordS
    rw [ht]
    simp only [atv, List.length_drop]
    rw [show b.length - (b.length - q) = q from by omega]
end Go.Proofs.Yticdkmnjolkacab
