/- Walks of mat: scale, copyRows, and what reduce does. -/
import Derived.Test.YtpeilgeloaogfaaMatCode
import Derived.Test.YtpeilgeloaogfaaClone
import Derived.Test.YtpeilgeloaogfaaReg2
namespace Go.Proofs.Ytpeilgeloaogfaa
set_option linter.unusedVariables false
set_option linter.unusedSimpArgs false
open Go Go.RowKit
set_option maxHeartbeats 4000000 in
set_option maxRecDepth 10000 in
theorem scale_any (base g m c : Nat) (f : Nat → UInt8) (hm : m ≤ 1000000) (x : UInt8) (w : World) (ho : OB w base (.slice (some ⟨g, 0, none⟩) m c) (row m f)) :
    Calls Try.prog 118 #[.slice (some ⟨g, 0, none⟩) m c, .int .u8 (U x)] w fun e w' => e = .returned (.tuple #[]) ∧ OB w' base (.slice (some ⟨g, 0, none⟩) m c) (row m (fun j => gmul x (f j))) ∧ Upd (fun k => k = g) w w' ∧ w'.heap.size = w.heap.size := by
  replace ho := Lib.hid ho
  go_enter Try.func118, Try.ntmps118
  go_wp2
  go_loopw [8] (fun i wr => ∃ k : Nat, k ≤ m ∧ i = .int .i64 k ∧ Hid (OB wr base (.slice (some ⟨g, 0, none⟩) m c) (row m (fun j => if j < k then gmul x (f j) else f j))) ∧ Hid (Upd (fun k => k = g) w wr) ∧ Hid (wr.heap.size = w.heap.size)) (fun i _ => m - (intOf i).toNat)
  case atStart => exact ⟨0, Nat.zero_le _, rfl, Lib.hid (by rw [row_congr (g := f) (fun j _ => if_neg (by omega))]; exact ho.out), Lib.hid (Upd.refl _ _), Lib.hid rfl⟩
  case round =>
    obtain ⟨k, hk, rfl, ho2, hu, hz⟩ := hrel
    by_cases hlt : k < m
    · obtain ⟨g', eg, -, hgl, hcell, hfr, hst⟩ := ho2.out.store (k := k) (by rw [row_length]; exact hlt)
      injection eg with eg
      injection eg with eg
      subst eg
      have hgk : (row m (fun j => if j < k then gmul x (f j) else f j))[k]'(by rw [row_length]; exact hlt) = f k := by
        have h1 := row_get hlt (fun j => if j < k then gmul x (f j) else f j)
        rw [List.getElem?_eq_getElem (by rw [row_length]; exact hlt)] at h1
        injection h1 with h1
        rw [h1, if_neg (by omega)]
      rw [hgk] at hcell
      have hst2 := hst (gmul x (f k))
      rw [row_set] at hst2
      have hnew : Hid (OB (wr.setCell ⟨g, k, none⟩ (.int .u8 (U (gmul x (f k))))) base (.slice (some ⟨g, 0, none⟩) m c) (row m (fun j => if j < k + 1 then gmul x (f j) else f j))) := Lib.hid (by
        rw [row_congr (g := fun j => if j = k then gmul x (f k) else if j < k then gmul x (f j) else f j)]
        · exact hst2
        · intro j hj
          by_cases e : j = k
          · subst e
            rw [if_pos (by omega), if_pos rfl]
          · rw [if_neg e]
            by_cases e2 : j < k
            · rw [if_pos e2, if_pos (by omega)]
            · rw [if_neg e2, if_neg (by omega)])
      obtain ⟨fk, hfk⟩ : ∃ fk, f k = fk := ⟨_, rfl⟩
      rw [hfk] at hcell hnew
      have hun : Hid (Upd (fun k => k = g) w (wr.setCell ⟨g, k, none⟩ (.int .u8 (U (gmul x fk))))) := Lib.hid ((Upd.road (fun k => k = g)).2 hu.out (Upd.of_grown (blk_grown wr g k _) rfl))
      have hzn : Hid ((wr.setCell ⟨g, k, none⟩ (.int .u8 (U (gmul x fk)))).heap.size = w.heap.size) := Lib.hid (by rw [← hz.out]; simp)
      clear hst hst2 hgk hgl
      replace hfk := Lib.hid hfk
      go_wp2_with fail
      refine (mul_any x fk _).mono ?_
      rintro e w3 ⟨rfl, rfl⟩
      go_wp2_with fail
      go_roundw
      case rel => exact ⟨k + 1, by omega, by go_num, hnew, hun, hzn⟩
      case measure => simp [intOf]; omega
    · obtain rfl : k = m := by omega
      have hfin : Hid (OB wr base (.slice (some ⟨g, 0, none⟩) k c) (row k (fun j => gmul x (f j)))) := Lib.hid (by
        have := ho2.out
        rwa [row_congr (g := fun j => gmul x (f j)) (fun j hj => if_pos hj)] at this)
      go_wp2
      go_end0
      exact ⟨rfl, hfin.out, hu.out, hz.out⟩
set_option maxHeartbeats 8000000 in
set_option maxRecDepth 20000 in
theorem copyRows_any (A : Option Addr) (n c : Nat) (L : List (List UInt8)) (hc : n ≤ c) (ht : isTab L = true) (w : World) (h : RT w w.heap.size A n L) :
    Calls Try.prog 82 #[.slice A n c] w fun e w' => ∃ g G C, e = .returned (.slice (some ⟨g, 0, none⟩) n n) ∧ TB w' w.heap.size g n (width L) G C (ent L) ∧ Below w.heap.size w w' := by
  have hn := h.1
  obtain ⟨b1, b2, b7, b8, -⟩ := isTab_iff.mp ht
  rw [hn] at b1 b2
  obtain ⟨m, hm⟩ : ∃ m, width L = m := ⟨_, rfl⟩
  rw [hm] at b7 b8 ⊢
  have hRa := Lib.hid h
  replace ht := Lib.hid ht
  replace hn := Lib.hid hn
  replace hm := Lib.hid hm
  clear h
  obtain ⟨w', hw'⟩ : ∃ w', w = w' := ⟨_, rfl⟩
  rw [hw'] at hRa ⊢
  clear hw'
  obtain ⟨ba, oa, -, -, -, rfl, hba, -⟩ := hRa.out.at_ (i := 0) (by omega)
  go_enter Try.func82, Try.ntmps82
  go_wp2_with (refine wpl_makeT rfl (.tmp 7) (.tmp 7) rfl n rfl rfl (by omega) ?_; intro w1 hsp1 hb1; replace hsp1 := Lib.hid hsp1; replace hb1 := Lib.hid hb1)
  obtain ⟨g, hg⟩ : ∃ g, w'.heap.size = g := ⟨_, rfl⟩
  have hsp : Hid (Sp w1 g n) := Lib.hid (by rw [← hg]; exact hsp1.out)
  rw [hg]
  replace hg := Lib.hid hg
  go_loopw [11] (fun i wr => ∃ (k : Nat) (G C : Nat → Nat), k ≤ n ∧ i = .int .i64 k ∧ Hid (TB wr w'.heap.size g k m G C (ent L)) ∧ Hid (Sp wr g n) ∧ Hid (Below w'.heap.size w' wr)) (fun i _ => n - (intOf i).toNat)
  case atStart => exact ⟨0, fun _ => 0, fun _ => 0, Nat.zero_le _, rfl, Lib.hid (TB.empty _ hsp.out (Nat.le_of_eq hg.out) m b7 _ _ _), hsp, hb1⟩
  case round =>
    obtain ⟨k, G, C, hk, rfl, htb1, hsp2, hb2⟩ := hrel
    clear hsp hsp1 hb1
    by_cases hlt : k < n
    · obtain ⟨ba', oa', A3, c3, la, ea, hba3, hla3, hca3, hlc3, hcm3, hrd3⟩ := hRa.out.at_ (i := k) hlt
      injection ea with ea
      injection ea with ea1 ea2 _
      subst ea1 ea2
      have hl3 := tab_len ht.out hla3
      rw [hm.out] at hl3
      rw [hl3] at hca3 hlc3
      replace hca3 := (hb2.out.cell (p := ⟨ba, oa + k, none⟩) hba3).trans hca3
      have hre := ent_row hla3
      have hrow : Hid (row m (ent L k) = la) := Lib.hid (by rw [hre, ← hl3]; exact row_of la)
      have hrd4 : Hid (Rd wr wr.heap.size A3 la) := Lib.hid ((hrd3.keep (fun p hp => hb2.out.cell hp)).more hb2.out.size)
      have hcl := Lib.hid (clone_any A3 m c3 la hl3 (by omega) wr hrd4.out)
      clear hrd3 hre
      replace hl3 := Lib.hid hl3
      replace hla3 := Lib.hid hla3
      go_wp2_with fail
      refine hcl.out.mono ?_
      rintro e w3 ⟨v3, rfl, ho3, hb3⟩
      obtain ⟨G', C', rfl, -, -, hgb, hgl, -⟩ := row_at ho3 (by rw [hl3.out]; omega)
      rw [hl3.out] at ho3 ⊢
      have hsp3 := hsp2.out.below hb3
      obtain ⟨vs, hcs⟩ := hsp3.cell hlt
      have hfs := hsp3.free k
      have hgr := (htb1.out.below hb3).grow hsp3 hlt (G' := G') (C' := C') (f := ent L k) (by rw [hrow.out]; exact ho3.more hb2.out.size) (fun i hi => by have := (htb1.out.glt hi).2; omega)
      have hsp4 := hsp3.set k (.slice (some ⟨G', 0, none⟩) m C')
      have hb4 : Below w'.heap.size w' (w3.setCell ⟨g, k, none⟩ (.slice (some ⟨G', 0, none⟩) m C')) := (hb2.out.trans (hb3.mono hb2.out.size)).setCell (p := ⟨g, k, none⟩) htb1.out.low _
      have hgn : Hid (TB (w3.setCell ⟨g, k, none⟩ (.slice (some ⟨G', 0, none⟩) m C')) w'.heap.size g (k + 1) m (fun i => if i = k then G' else G i) (fun i => if i = k then C' else C i) (ent L)) := Lib.hid (hgr.congr (fun i j _ _ => by
        by_cases e : i = k
        · simp only [if_pos e]; rw [e]
        · simp only [if_neg e]))
      replace hsp4 := Lib.hid hsp4
      replace hb4 := Lib.hid hb4
      clear hgr hsp3 ho3 hb3 hcl
      go_wp2_with fail
      go_roundw
      case rel => exact ⟨k + 1, _, _, by omega, by go_num, hgn, hsp4, hb4⟩
      case measure => simp [intOf]; omega
    · obtain rfl : k = n := by omega
      go_wp2_with fail
      go_ret
      exact ⟨g, G, C, rfl, htb1.out, hb2.out⟩
/-! ### columns -/
theorem Cols.swap {n c p : Nat} {L : Mx} (h : Cols n c L) (hcp : c ≤ p) (hp : p < n) : Cols n c (swapR c p L) := fun i j hi hj => by
  unfold swapR
  by_cases e1 : i = c
  · rw [if_pos e1, h p j hp hj]; unfold idM; rw [if_neg (by omega), if_neg (by omega)]
  · rw [if_neg e1]
    by_cases e2 : i = p
    · rw [if_pos e2, h c j (by omega) hj]; unfold idM; rw [if_neg (by omega), if_neg (by omega)]
    · rw [if_neg e2]; exact h i j hi hj
theorem Cols.scale {n c : Nat} {L : Mx} (h : Cols n c L) (hc : c < n) (f : UInt8) : Cols n c (scaleR c f L) := fun i j hi hj => by
  unfold scaleR
  by_cases e1 : i = c
  · rw [if_pos e1, h c j hc hj]; unfold idM; rw [if_neg (by omega), if_neg (by omega), gmul_zero_r]
  · rw [if_neg e1]; exact h i j hi hj
theorem Cols.add {n c r : Nat} {L : Mx} (h : Cols n c L) (hc : c < n) (f : UInt8) : Cols n c (addR r c f L) := fun i j hi hj => by
  unfold addR
  by_cases e1 : i = r
  · subst e1
    rw [if_pos rfl, h c j hc hj, h i j hi hj]
    have : idM c j = 0 := by unfold idM; rw [if_neg (by omega)]
    rw [this, gmul_zero_r, x0]
  · rw [if_neg e1]; exact h i j hi hj
theorem Cols.next {n c : Nat} {L : Mx} (h : Cols n c L) (h1 : L c c = 1) (h0 : ∀ i, i < n → i ≠ c → L i c = 0) : Cols n (c + 1) L := fun i j hi hj => by
  by_cases e : j = c
  · subst e
    unfold idM
    by_cases e2 : i = j
    · subst e2; rw [if_pos rfl]; exact h1
    · rw [if_neg e2]; exact h0 i hi e2
  · exact h i j hi (by omega)
def swapf (c p : Nat) (G : Nat → Nat) : Nat → Nat := fun i => if i = c then G p else if i = p then G c else G i
theorem swapf_in {c p n : Nat} (hc : c < n) (hp : p < n) (G : Nat → Nat) {i : Nat} (hi : i < n) : ∃ j, j < n ∧ swapf c p G i = G j := by
  unfold swapf
  split
  · exact ⟨p, hp, rfl⟩
  · split
    · exact ⟨c, hc, rfl⟩
    · exact ⟨i, hi, rfl⟩
theorem TB.sp {w : World} {base g n m : Nat} {G C : Nat → Nat} {M : Mx} (h : TB w base g n m G C M) : ∃ N, n ≤ N ∧ Sp w g N := by
  obtain ⟨cs, h1, h2, -⟩ := h.spine
  exact ⟨cs.size, h2, cs, h1, rfl⟩
theorem TB.swap {w : World} {base g n m : Nat} {G C : Nat → Nat} {M : Mx} (h : TB w base g n m G C M) {c p : Nat} (hc : c < n) (hp : p < n) :
    TB ((w.setCell ⟨g, c, none⟩ (.slice (some ⟨G p, 0, none⟩) m (C p))).setCell ⟨g, p, none⟩ (.slice (some ⟨G c, 0, none⟩) m (C c))) base g n m (swapf c p G) (swapf c p C) (swapR c p M) := by
  obtain ⟨cs, h1, h2, h3⟩ := h.spine
  have hk : ∀ k, k ≠ g → ((w.setCell ⟨g, c, none⟩ (.slice (some ⟨G p, 0, none⟩) m (C p))).setCell ⟨g, p, none⟩ (.slice (some ⟨G c, 0, none⟩) m (C c))).heap[k]? = w.heap[k]? := fun k hk => (blk_other hk p _).trans (blk_other hk c _)
  refine ⟨⟨_, blk_set (blk_set h1 c _) p _, by simpa using h2, fun i hi => ?_⟩, h.low, fun i hi => ?_, fun i j hi hj hne => ?_, h.wide⟩
  · unfold swapf
    by_cases e1 : i = p
    · subst e1
      rw [Array.getElem?_setIfInBounds_self_of_lt (by simp; omega)]
      by_cases e2 : i = c
      · subst e2; simp
      · simp [e2]
    · rw [Array.getElem?_setIfInBounds_ne (by omega)]
      by_cases e2 : i = c
      · subst e2
        rw [Array.getElem?_setIfInBounds_self_of_lt (by omega)]
        simp
      · rw [Array.getElem?_setIfInBounds_ne (by omega)]
        simp only [if_neg e1, if_neg e2]
        exact h3 i hi
  · have hrow : ∀ j, j < n → OB ((w.setCell ⟨g, c, none⟩ (.slice (some ⟨G p, 0, none⟩) m (C p))).setCell ⟨g, p, none⟩ (.slice (some ⟨G c, 0, none⟩) m (C c))) base (.slice (some ⟨G j, 0, none⟩) m (C j)) (row m (M j)) := fun j hj =>
      row_keep (h.own j hj) (fun k hk' => by injection hk' with hk'; subst hk'; exact hk _ (h.gne hj))
    unfold swapf swapR
    by_cases e1 : i = c
    · simp only [if_pos e1]; exact hrow p hp
    · simp only [if_neg e1]
      by_cases e2 : i = p
      · simp only [if_pos e2]; exact hrow c hc
      · simp only [if_neg e2]; exact hrow i hi
  · unfold swapf
    have ha := h.apart
    by_cases e1 : i = c <;> by_cases e2 : j = c <;> by_cases e3 : i = p <;> by_cases e4 : j = p <;> simp only [e1, e2, e3, e4, if_true, if_false, eq_self] <;> first
      | (exfalso; omega)
      | (refine ha _ _ (by omega) (by omega) (by omega))
      | (simp only [show ¬ p = c by omega, show ¬ c = p by omega, if_false, if_true]; refine ha _ _ (by omega) (by omega) (by omega))
theorem TB.sep {w : World} {b1 b2 g1 g2 n m k l : Nat} {G1 C1 G2 C2 : Nat → Nat} {M1 M2 : Mx} (h1 : TB w b1 g1 n m G1 C1 M1) (h2 : TB w b2 g2 k l G2 C2 M2) {i : Nat} (hi : i < k) : G2 i ≠ g1 := fun e => by
  obtain ⟨N, -, hs⟩ := h1.sp
  exact Sp.ne hs (l := row l (M2 i)) (m := G2 i) (by have := h2.own i hi; rw [row_length]; exact this) (by rw [row_length]; exact h2.wide) e
end Go.Proofs.Ytpeilgeloaogfaa
