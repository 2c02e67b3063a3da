/- Walks of mat: Invert. -/
import Derived.Test.YtpeilgeloaogfaaMatRed
namespace Go.Proofs.Ytpeilgeloaogfaa
set_option linter.unusedVariables false
set_option linter.unusedSimpArgs false
open Go Go.RowKit
theorem first_pivot (f : Nat → UInt8) : ∀ (d c n : Nat), n ≤ c + d → (∀ p, c ≤ p → p < n → f p = 0) ∨ ∃ p, c ≤ p ∧ p < n ∧ f p ≠ 0 ∧ ∀ r, c ≤ r → r < p → f r = 0
  | 0, c, n, h => .inl (fun p h1 h2 => by omega)
  | d + 1, c, n, h => by
    by_cases hcn : c < n
    · by_cases h0 : f c = 0
      · rcases first_pivot f d (c + 1) n (by omega) with h1 | ⟨p, h1, h2, h3, h4⟩
        · refine .inl (fun p hp hpn => ?_)
          by_cases e : p = c
          · rw [e]; exact h0
          · exact h1 p (by omega) hpn
        · refine .inr ⟨p, by omega, h2, h3, fun r hr hrp => ?_⟩
          by_cases e : r = c
          · rw [e]; exact h0
          · exact h4 r (by omega) hrp
      · exact .inr ⟨c, Nat.le_refl _, hcn, h0, fun r h1 h2 => by omega⟩
    · exact .inl (fun p h1 h2 => by omega)
def square (L : List (List UInt8)) : Bool := isTab L && (L.length == width L)
def InvRes (n : Nat) (A : Mx) (w : World) (e : Ending) (w' : World) : Prop := Below w.heap.size w w' ∧ ((e = .returned (.tuple #[.slice none 0 0, .bool false]) ∧ HasKer n A) ∨
  ∃ g G C X, e = .returned (.tuple #[.slice (some ⟨g, 0, none⟩) n n, .bool true]) ∧ TB w' w.heap.size g n n G C X ∧ EqM n n (mm n X A) idM ∧ EqM n n (mm n A X) idM)
theorem InvRes.no {n : Nat} {A : Mx} {w w' : World} (hb : Below w.heap.size w w') (h : HasKer n A) : InvRes n A w (.returned (.tuple #[.slice none 0 0, .bool false])) w' := ⟨hb, .inl ⟨rfl, h⟩⟩
theorem InvRes.yes {n : Nat} {A : Mx} {w w' : World} (hb : Below w.heap.size w w') {g : Nat} {G C : Nat → Nat} {X : Mx} (ht : TB w' w.heap.size g n n G C X) (h1 : EqM n n (mm n X A) idM) (h2 : EqM n n (mm n A X) idM) :
    InvRes n A w (.returned (.tuple #[.slice (some ⟨g, 0, none⟩) n n, .bool true])) w' := ⟨hb, .inr ⟨g, G, C, X, rfl, ht, h1, h2⟩⟩
set_option maxHeartbeats 8000000 in
set_option maxRecDepth 20000 in
theorem invert_ok (A : Option Addr) (n c : Nat) (L : List (List UInt8)) (hc : n ≤ c) (hsq : square L = true) (w : World) (h : RT w w.heap.size A n L) :
    Calls Try.prog 33 #[.slice A n c] w (InvRes n (ent L) w) := by
  unfold square at hsq
  rw [Bool.and_eq_true, beq_iff_eq] at hsq
  obtain ⟨ht, hw⟩ := hsq
  have hn := h.1
  obtain ⟨b1, b2, -, -, -⟩ := isTab_iff.mp ht
  rw [hn] at b1 b2 hw
  have i1 := isMatrix_any A n c L hc (by omega) w h
  rw [ht] at i1
  obtain ⟨ba, oa, A0, c0, la0, rfl, hba, hla0, hca0, -, -, -⟩ := h.at_ (i := 0) (by omega)
  have hla := tab_len ht hla0
  rw [Nat.add_zero, hla, ← hw] at hca0
  have hne : ((n : Int) != (n : Int)) = false := by simp
  have ia0 : (0 : Int) < (n : Int) := by omega
  have hcp := copyRows_any (some ⟨ba, oa, none⟩) n c L hc ht w h
  rw [← hw] at hcp
  replace i1 := Lib.hid i1
  replace hcp := Lib.hid hcp
  replace ht := Lib.hid ht
  replace hw := Lib.hid hw
  replace hn := Lib.hid hn
  replace hla := Lib.hid hla
  replace hla0 := Lib.hid hla0
  clear h
  go_enter Try.func33, Try.ntmps33
  go_wp2_with fail
  refine i1.out.mono ?_
  rintro e w' ⟨rfl, rfl⟩
  go_wp2_with fail
  refine hcp.out.mono ?_
  rintro e w1 ⟨gl, Gl, Cl, rfl, hL, hb1⟩
  replace hL := Lib.hid hL
  replace hb1 := Lib.hid hb1
  clear hca0
  go_wp2_with fail
  refine (identity_any n b1 b2 w1).mono ?_
  rintro e w2 ⟨gr, Gr, Cr, rfl, hR, hb2⟩
  have hd : gl ≠ gr := by have := hL.out.lt; have := hR.low; omega
  have hD : Hid (∀ i j, i < n → j < n → Gl i ≠ Gr j) := Lib.hid (fun i j hi hj => by have := (hL.out.glt hi).2; have := (hR.glt hj).1; omega)
  replace hL := Lib.hid (hL.out.below hb2)
  replace hR := Lib.hid (hR.more hb1.out.size)
  replace hb1 := Lib.hid (hb1.out.trans (hb2.mono hb1.out.size))
  have hI0 : Hid (Inv n (ent L) (ent L) idM) := Lib.hid (Inv.start n (ent L))
  have hC0 : Hid (Cols n 0 (ent L)) := Lib.hid (fun i j _ hj => by omega)
  clear hb2
  go_wp2_with fail
  go_loopw [26] (fun i wr => ∃ (k : Nat) (Gl Cl Gr Cr : Nat → Nat) (Lk Rk : Mx), k ≤ n ∧ i = .int .i64 k ∧ Hid (TB wr w'.heap.size gl n n Gl Cl Lk) ∧ Hid (TB wr w'.heap.size gr n n Gr Cr Rk) ∧ Hid (∀ i j, i < n → j < n → Gl i ≠ Gr j) ∧ Hid (Inv n (ent L) Lk Rk) ∧ Hid (Cols n k Lk) ∧ Hid (Below w'.heap.size w' wr)) (fun i _ => n - (intOf i).toNat)
  case atStart => exact ⟨0, Gl, Cl, Gr, Cr, _, _, Nat.zero_le _, rfl, hL, hR, hD, hI0, hC0, hb1⟩
  case round =>
    obtain ⟨k, Gl, Cl, Gr, Cr, Lk, Rk, hk, rfl, hL2, hR2, hD2, hI, hC, hb⟩ := hrel
    clear hL hR hD hI0 hC0 hb1
    by_cases hlt : k < n
    · rcases first_pivot (fun p => Lk p k) n k n (by omega) with h0 | ⟨p, hp1, hp2, hp3, hp4⟩
      · have hker := Lib.hid (hI.out.stuck hC.out hlt h0)
        have hred := Lib.hid (reduce_no w'.heap.size n gl gr Gl Cl Gr Cr Lk Rk k hlt b2 h0 wr hL2.out)
        replace h0 := Lib.hid h0
        go_wp2_with fail
        refine hred.out.mono ?_
        rintro e w5 ⟨rfl, rfl⟩
        go_wp2_with fail
        go_ret2
        exact InvRes.no hb.out hker.out
      · have hred := Lib.hid (reduce_yes w'.heap.size n gl gr Gl Cl Gr Cr Lk Rk k hlt b2 hd hD2.out p hp1 hp2 hp3 hp4 wr hL2.out hR2.out)
        replace hp3 := Lib.hid hp3
        replace hp4 := Lib.hid hp4
        go_wp2_with fail
        refine hred.out.mono ?_
        rintro e w5 ⟨⟨Gl', Cl', Gr', Cr', L', R', rfl, q1, q2, q3, q4, q5⟩, hb5⟩
        replace q1 := Lib.hid q1
        replace q2 := Lib.hid q2
        replace q3 := Lib.hid q3
        replace q4 := Lib.hid (q4 (ent L) hI.out)
        replace q5 := Lib.hid (q5 hC.out)
        replace hb5 := Lib.hid (hb.out.trans hb5)
        go_wp2_with fail
        go_roundw
        case rel => exact ⟨k + 1, Gl', Cl', Gr', Cr', L', R', by omega, by go_num, q1, q2, q3, q4, q5, hb5⟩
        case measure => simp [intOf]; omega
    · obtain rfl : k = n := by omega
      have hfin := Lib.hid (hI.out.done hC.out)
      go_wp2_with fail
      go_ret2
      exact InvRes.yes hb.out hR2.out hfin.out.1 hfin.out.2
set_option maxHeartbeats 8000000 in
set_option maxRecDepth 20000 in
theorem invert_no (A : Option Addr) (n c : Nat) (L : List (List UInt8)) (hc : n ≤ c) (hcm : c ≤ 9223372036854775807) (hsq : square L = false) (w : World) (h : RT w w.heap.size A n L) :
    Calls Try.prog 33 #[.slice A n c] w fun e w' => e = .returned (.tuple #[.slice none 0 0, .bool false]) ∧ w' = w := by
  unfold square at hsq
  have hn := h.1
  have i1 := isMatrix_any A n c L hc (by omega) w h
  cases ht : isTab L with
  | false =>
    rw [ht] at i1
    replace i1 := Lib.hid i1
    replace hsq := Lib.hid hsq
    replace ht := Lib.hid ht
    replace hn := Lib.hid hn
    clear h
    go_enter Try.func33, Try.ntmps33
    go_wp2_with fail
    refine i1.out.mono ?_
    rintro e w' ⟨rfl, rfl⟩
    go_wp2_with fail
    go_ret2
    exact ⟨rfl, rfl⟩
  | true =>
    rw [ht] at i1 hsq
    rw [Bool.true_and, hn, beq_eq_false_iff_ne] at hsq
    have b1 := (isTab_iff.mp ht).1
    rw [hn] at b1
    obtain ⟨ba, oa, A0, c0, la0, rfl, hba, hla0, hca0, -, -, -⟩ := h.at_ (i := 0) (by omega)
    have hla := tab_len ht hla0
    rw [Nat.add_zero, hla] at hca0
    obtain ⟨m, hm⟩ : ∃ m, width L = m := ⟨_, rfl⟩
    rw [hm] at hca0 hsq
    have hne : ((n : Int) != (m : Int)) = true := by simp; omega
    have ia0 : (0 : Int) < (n : Int) := by omega
    replace i1 := Lib.hid i1
    replace hsq := Lib.hid hsq
    replace ht := Lib.hid ht
    replace hn := Lib.hid hn
    replace hla := Lib.hid hla
    replace hla0 := Lib.hid hla0
    replace hm := Lib.hid hm
    clear h
    go_enter Try.func33, Try.ntmps33
    go_wp2_with fail
    refine i1.out.mono ?_
    rintro e w' ⟨rfl, rfl⟩
    go_wp2_with fail
    go_ret2
    exact ⟨rfl, rfl⟩
end Go.Proofs.Ytpeilgeloaogfaa
