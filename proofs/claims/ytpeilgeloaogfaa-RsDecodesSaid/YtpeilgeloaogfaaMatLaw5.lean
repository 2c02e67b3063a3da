/- mat's laws: rows of a table by picks. -/
import Derived.Test.YtpeilgeloaogfaaMatLaw2
import Derived.Test.YtpeilgeloaogfaaAb
namespace Go.Proofs.Ytpeilgeloaogfaa
set_option linter.unusedVariables false
set_option linter.unusedSimpArgs false
open Go Go.RowKit
theorem map_range {L : List (List UInt8)} : (List.range L.length).map (fun r => L.getD r []) = L := by
  refine List.ext_getElem? fun i => ?_
  by_cases h : i < L.length
  · rw [List.getElem?_map, List.getElem?_range h, List.getElem?_eq_getElem h]
    simp [List.getD_eq_getElem?_getD, h]
  · rw [List.getElem?_eq_none (by simp; omega), List.getElem?_eq_none (by omega)]
theorem rt_rr {w : World} {A : Option Addr} {n c : Nat} {L : List (List UInt8)} (h : RT w w.heap.size A n L) (hc : n ≤ c) (hm : c ≤ maxLen) : RR w w.heap.size (.slice A n c) L := by
  refine ⟨A, c, by rw [h.1], by rw [h.1]; exact hc, hm, fun hn => ?_⟩
  obtain ⟨b, o, e, hb, hr⟩ := h.2 (by rw [← h.1]; exact hn)
  exact ⟨b, o, e, hb, fun i l hl => by obtain ⟨A', c', r1, r2, r3, r4⟩ := hr i l hl; exact ⟨A', c', r1, r4, r2, r3⟩⟩
theorem tmod_u8 (p : UInt8) (m : Nat) : Int.tmod (U p) (m : Int) = ((p.toNat % m : Nat) : Int) := by
  unfold U
  rw [Int.ofNat_tmod]
theorem take_erase_at2 {left : List Nat} {a s : Nat} (h : s = a) (ha : s < left.length) : (left.take (s + 1)).eraseIdx a = (left.take s).eraseIdx a := by
  subst h
  exact take_erase_at ha
def Sep (x y : Value) : Prop := ∀ q, x.ownBlock = some q → y.ownBlock ≠ some q
set_option maxHeartbeats 16000000 in
set_option maxRecDepth 20000 in
theorem chosen_p {L : List (List UInt8)} {v : Value} (k : Nat) (hk32 : k ≤ L.length) (hn : L.length ≤ 32) (hlen : ∀ (i : Nat) (l : List UInt8), L[i]? = some l → l.length ≤ 1000000) (Ap : Option Addr) (np cp : Nat) (lp : List UInt8) (hnp : np = lp.length) (hnc : np ≤ cp) (hcp : cp ≤ maxLen) (w : World) (hL : Hid (Tbl L v w)) (hp : Rd w w.heap.size Ap lp) :
    Calls Try.prog 39 #[v, .int .i64 k, .slice Ap np cp] w fun e w' => ∃ u, ∃ rs : List Nat, e = .returned u ∧ Hid (Tbl (rs.map (fun r => L.getD r [])) u w') ∧ Hid (rs.Nodup ∧ rs.length = k ∧ ∀ r, r ∈ rs → r < L.length) ∧ Gr w w' := by
  obtain ⟨A, c, rfl, a1, a2, a3⟩ := hL.out
  have i1 := Lib.hid (rcopy_any A _ c L (by omega) hlen w a3)
  have hL0 := Lib.hid (map_range (L := L))
  obtain ⟨rowf, hrowf⟩ : ∃ rowf : Nat → List UInt8, (fun r => L.getD r []) = rowf := ⟨_, rfl⟩
  rw [hrowf] at hL0 ⊢
  obtain ⟨n, hnn⟩ : ∃ n, L.length = n := ⟨_, rfl⟩
  rw [hnn] at hL0 hn hk32 i1 a1 ⊢
  have hcp' : cp ≤ 9223372036854775807 := hcp
  replace hp := Lib.hid hp
  replace hcp := Lib.hid hcp
  replace hrowf := Lib.hid hrowf
  replace hnn := Lib.hid hnn
  replace hnp := Lib.hid hnp
  replace hL := Lib.hid hL
  clear a2 a3 hlen
  go_enter Try.func39, Try.ntmps39
  go_wp2_with fail
  refine i1.out.mono ?_
  rintro e w1 ⟨A1, c1, rfl, hc1, hcm1, hat, hq⟩
  have hrr : Hid (RR w1 w1.heap.size (.slice A1 n c1) ((List.range n).map rowf)) := Lib.hid (by
    obtain ⟨A2, c2, e2, -, -, hrt⟩ := hat.form hq.size
    injection e2 with e1 _ _
    subst e1
    rw [hL0.out]
    rw [hnn.out] at hrt
    exact rt_rr hrt hc1 hcm1)
  obtain ⟨B, hB⟩ : ∃ B, w1.heap.size = B := ⟨_, rfl⟩
  rw [hB] at hrr
  have hB1 : B ≤ w1.heap.size := by omega
  have hwB : w.heap.size ≤ B := by have := hq.size; omega
  have hab : Hid (AB (w1.alloc (.cells #[] 29)) B (.slice (some ⟨w1.heap.size, 0, none⟩) 0 0) (([] : List Nat).map rowf)) := Lib.hid (AB.empty w1 B hB1)
  have hrr2 : Hid (RR (w1.alloc (.cells #[] 29)) B (.slice A1 n c1) ((List.range n).map rowf)) := Lib.hid (hrr.out.below ((Below.refl _ _).alloc (Nat.le_refl _) _) hB1)
  have hsep : Hid (Sep (.slice (some ⟨w1.heap.size, 0, none⟩) 0 0) (.slice A1 n c1)) := Lib.hid (fun q hq1 hq2 => by
    injection hq1 with hq1
    obtain ⟨rows, h8, -, -⟩ := hat
    have h9 := (h8.lt q hq2).2
    simp at hq1
    omega)
  have hq2 : Hid (Below w.heap.size w (w1.alloc (.cells #[] 29))) := Lib.hid (hq.alloc hq.size _)
  have hB2 : B ≤ (w1.alloc (.cells #[] 29)).heap.size := by simp; omega
  replace hB := Lib.hid hB
  clear i1 hat hq hrr hcm1 hB1
  go_wp2_with fail
  obtain ⟨w2, hw2⟩ : ∃ x, w1.alloc (.cells #[] 29) = x := ⟨_, rfl⟩
  rw [hw2] at hab hrr2 hq2 hB2 ⊢
  replace hw2 := Lib.hid hw2
  go_loopw [7, 8, 9] (fun vr vo i wr => ∃ (t : Nat) (rs left : List Nat) (xr xo : Value), t ≤ k ∧ i = .int .i64 t ∧ xr = vr ∧ xo = vo ∧ B ≤ wr.heap.size ∧ Hid (RR wr B xr (left.map rowf)) ∧ Hid (AB wr B xo (rs.map rowf)) ∧ Hid (Sep xo xr) ∧ Hid ((rs ++ left).Nodup ∧ (∀ r, r ∈ rs ++ left → r < n) ∧ rs.length = t ∧ left.length + t = n) ∧ Hid (Below w.heap.size w wr)) (fun _ _ i _ => k - (intOf i).toNat)
  case atStart => exact ⟨0, [], List.range n, _, _, Nat.zero_le _, rfl, rfl, rfl, hB2, hrr2, hab, hsep, Lib.hid ⟨List.nodup_range, fun r hr => List.mem_range.mp hr, rfl, by simp⟩, hq2⟩
  case round =>
    obtain ⟨t, rs, left, xr, xo, ht, rfl, rfl, rfl, hBr, hR, hO, hS, hP, hq3⟩ := hrel
    clear hab hrr2 hsep hq2 hB2
    obtain ⟨wo, hwo⟩ : ∃ wo, wo = wr := ⟨_, rfl⟩
    subst hwo
    by_cases hlt : t < k
    · have ik : (t : Int) < (k : Int) := by omega
      have hm0 : 0 < left.length := by have := hP.out.2.2.2; omega
      obtain ⟨b, o, cc, rfl, hmc, hbl⟩ := hR.out.form0 (by rw [List.length_map]; exact hm0)
      rw [List.length_map] at hR hmc hS ⊢
      obtain ⟨m, hm⟩ : ∃ m, left.length = m := ⟨_, rfl⟩
      rw [hm] at hR hmc hS hm0 ⊢
      have im : (0 : Int) < (m : Int) := by omega
      have m32 : m ≤ 32 := by have := hP.out.2.2.2; omega
      replace hm := Lib.hid hm
      by_cases htp : t < np
      · have it : (t : Int) < (np : Int) := by omega
        have htl : t < lp.length := by rw [← hnp.out]; exact htp
        obtain ⟨ad, rfl, hadb, hpc⟩ := ((hp.out.below hq3.out).more hq3.out.size).get (List.getElem?_eq_getElem htl)
        obtain ⟨p, hpe⟩ : ∃ p, lp[t] = p := ⟨_, rfl⟩
        rw [hpe] at hpc
        have hmod := tmod_u8 p m
        have hmz : ((m : Int) == 0) = false := by simp; omega
        have hamm := Nat.mod_lt p.toNat hm0
        obtain ⟨a, ha⟩ : ∃ a, p.toNat % m = a := ⟨_, rfl⟩
        rw [ha] at hmod hamm
        replace ha := Lib.hid ha
        replace hpe := Lib.hid hpe
        replace htl := Lib.hid htl
        obtain ⟨z, hz⟩ : ∃ z, left[a]? = some z := ⟨_, List.getElem?_eq_getElem (by rw [hm.out]; exact hamm)⟩
        obtain ⟨A', c', hcell, hrd, hlc, hcm⟩ := hR.out.cell (i := a) (l := rowf z) (by rw [List.getElem?_map, hz]; rfl)
        replace hz := Lib.hid hz
        have ia : (a : Int) < (m : Int) := by omega
        have hbb : Below wo.heap.size wo (wo.alloc (.cells #[.slice A' (rowf z).length c'] 29)) := (Below.refl _ _).alloc (Nat.le_refl _) _
        have hlit := Lib.hid (reads_one wo 29 (.slice A' (rowf z).length c'))
        have hO5 := Lib.hid (hO.out.below hbb hBr)
        have hR5 := Lib.hid (hR.out.below hbb hBr)
        have hq5 := Lib.hid (hq3.out.trans (hbb.mono hq3.out.size))
        have hrd5 := Lib.hid (hrd.keep (fun p hp => hbb.cell (by omega)))
        have hB5 : B ≤ (wo.alloc (.cells #[.slice A' (rowf z).length c'] 29)).heap.size := by simp; omega
        have hrs : Hid ((rs.map rowf).length ≤ 1000000) := Lib.hid (by rw [List.length_map]; have := hP.out.2.2.1; omega)
        have hlc' := Lib.hid hlc
        have hcm' := Lib.hid hcm
        clear hbb hrd hlc hcm
        go_wp2_with (at_builtin; go_must (refine wpl_append_sh rfl (.tmp 38) (.tmp 43) rfl B xo (rs.map rowf) rfl hO5.out A' c' (rowf z) hrd5.out hlc'.out hcm'.out _ _ 1 rfl hlit.out hrs.out hB5 ?_); intro v8 w8 ho8 hg8 hown8; replace ho8 := Lib.hid ho8; replace hg8 := Lib.hid hg8; replace hown8 := Lib.hid hown8)
        have hR8 := hR5.out.grown hg8.out hB5 (fun q hq => ⟨(hO5.out.up q hq).1, hS.out q hq⟩)
        have hS8 : Hid (Sep v8 (.slice (some ⟨b, o, none⟩) m cc)) := Lib.hid (fun q hq h2 => by
          rcases hown8.out with h | h
          · rw [h] at hq; exact hS.out q hq h2
          · rw [h] at hq
            injection hq with hq
            injection h2 with h2
            simp at hq h2
            omega)
        have hB8 : B ≤ w8.heap.size := Nat.le_trans hB5 hg8.out.size
        have hq8 : Below w.heap.size w w8 := hq5.out.grown hg8.out hq5.out.size (fun q hq => Nat.le_trans hwB (hO5.out.up q hq).1)
        have hbb : Below w8.heap.size w8 (w8.alloc (.cells #[] 29)) := (Below.refl _ _).alloc (Nat.le_refl _) _
        have hR9 := Lib.hid (hR8.below hbb hB8)
        have hO9 := Lib.hid (ho8.out.below hbb hB8)
        have hq9 := Lib.hid (hq8.trans (hbb.mono hq8.size))
        have hab9 : Hid (AB (w8.alloc (.cells #[] 29)) B (.slice (some ⟨w8.heap.size, 0, none⟩) 0 0) (((left.take 0).eraseIdx a).map rowf)) := Lib.hid (AB.empty w8 B hB8)
        have hs9 : Hid (Sep (.slice (some ⟨w8.heap.size, 0, none⟩) 0 0) (.slice (some ⟨b, o, none⟩) m cc) ∧ Sep (.slice (some ⟨w8.heap.size, 0, none⟩) 0 0) v8) := Lib.hid ⟨fun q hq h2 => by
          injection hq with hq
          injection h2 with h2
          have := hg8.out.size
          simp at hq h2 this
          omega, fun q hq h2 => by
          injection hq with hq
          have := (ho8.out.up q h2).2
          simp at hq
          omega⟩
        have hB9 : B ≤ (w8.alloc (.cells #[] 29)).heap.size := by simp; omega
        obtain ⟨w9, hw9⟩ : ∃ x, w8.alloc (.cells #[] 29) = x := ⟨_, rfl⟩
        rw [hw9] at hR9 hO9 hq9 hab9 hB9 ⊢
        replace hw9 := Lib.hid hw9
        clear hO5 hR5 hrd5 hB5 hlit hrs hlc' hcm' hcell hR8 hB8 hq8 hbb ho8 hg8 hown8 hR hO hS hq3 hBr
        go_loopw [11, 12] (fun vl j wi => ∃ (s : Nat) (xl : Value), s ≤ m ∧ j = .int .i64 s ∧ xl = vl ∧ B ≤ wi.heap.size ∧ Hid (AB wi B xl (((left.take s).eraseIdx a).map rowf)) ∧ Hid (RR wi B (.slice (some ⟨b, o, none⟩) m cc) (left.map rowf)) ∧ Hid (AB wi B v8 (rs.map rowf ++ [rowf z])) ∧ Hid (Sep xl (.slice (some ⟨b, o, none⟩) m cc) ∧ Sep xl v8) ∧ Hid (Below w.heap.size w wi)) (fun _ j _ => m - (intOf j).toNat)
        case atStart => exact ⟨0, _, Nat.zero_le _, rfl, rfl, hB9, hab9, hR9, hO9, hs9, hq9⟩
        case round =>
          obtain ⟨s, xl, hs, rfl, rfl, hBi, hl1, hR1, hO1, hs1, hq1⟩ := hrel
          clear hB9 hab9 hR9 hO9 hs9 hq9
          obtain ⟨wi, hwi⟩ : ∃ wi, wi = wr := ⟨_, rfl⟩
          subst hwi
          by_cases hsm : s < m
          · have is : (s : Int) < (m : Int) := by omega
            by_cases hsa : s = a
            · have isa : ((s : Int) != (a : Int)) = false := by rw [hsa]; simp
              have hl2 : Hid (AB wi B xl (((left.take (s + 1)).eraseIdx a).map rowf)) := Lib.hid (by rw [take_erase_at2 hsa (by rw [hm.out]; exact hsm)]; exact hl1.out)
              replace hsa := Lib.hid hsa
              go_wp2_with fail
              go_roundw
              case rel => first | exact ⟨s + 1, xl, by omega, by go_num, rfl, hBi, hl2, hR1, hO1, hs1, hq1⟩ | ((repeat apply Exists.intro); exact ⟨⟨s + 1, xl, by omega, by go_num, rfl, hBi, hl2, hR1, hO1, hs1, hq1⟩, rfl⟩)
              case measure => simp [intOf]; omega
            · have isa : ((s : Int) != (a : Int)) = true := by simp; omega
              obtain ⟨y, hy⟩ : ∃ y, left[s]? = some y := ⟨_, List.getElem?_eq_getElem (by rw [hm.out]; exact hsm)⟩
              obtain ⟨A', c', hcell, hrd, hlc, hcm⟩ := hR1.out.cell (i := s) (l := rowf y) (by rw [List.getElem?_map, hy]; rfl)
              have hyl : Hid (((left.take s).eraseIdx a).map rowf ++ [rowf y] = ((left.take (s + 1)).eraseIdx a).map rowf) := Lib.hid (by
                rw [take_erase_ne (by rw [hm.out]; exact hsm) hsa, List.map_append]
                obtain ⟨hh, he⟩ := List.getElem?_eq_some_iff.mp hy
                rw [he]; rfl)
              replace hy := Lib.hid hy
              replace hsa := Lib.hid hsa
              have hbb : Below wi.heap.size wi (wi.alloc (.cells #[.slice A' (rowf y).length c'] 29)) := (Below.refl _ _).alloc (Nat.le_refl _) _
              have hlit := Lib.hid (reads_one wi 29 (.slice A' (rowf y).length c'))
              have hl5 := Lib.hid (hl1.out.below hbb hBi)
              have hR5 := Lib.hid (hR1.out.below hbb hBi)
              have hO5 := Lib.hid (hO1.out.below hbb hBi)
              have hq5 := Lib.hid (hq1.out.trans (hbb.mono hq1.out.size))
              have hrd5 := Lib.hid (hrd.keep (fun p hp => hbb.cell (by omega)))
              have hB5 : B ≤ (wi.alloc (.cells #[.slice A' (rowf y).length c'] 29)).heap.size := by simp; omega
              have hrs : Hid ((((left.take s).eraseIdx a).map rowf).length ≤ 1000000) := Lib.hid (by
                rw [List.length_map]
                have h1 := List.length_eraseIdx_le (left.take s) a
                rw [List.length_take] at h1
                omega)
              have hlc' := Lib.hid hlc
              have hcm' := Lib.hid hcm
              clear hbb hrd hlc hcm
              go_wp2_with (at_builtin; go_must (refine wpl_append_sh rfl (.tmp 55) (.tmp 60) rfl B xl (((left.take s).eraseIdx a).map rowf) rfl hl5.out A' c' (rowf y) hrd5.out hlc'.out hcm'.out _ _ 1 rfl hlit.out hrs.out hB5 ?_); intro v7 w7 ho7 hg7 hown7; replace ho7 := Lib.hid ho7; replace hg7 := Lib.hid hg7; replace hown7 := Lib.hid hown7)
              have hl7 : Hid (AB w7 B v7 (((left.take (s + 1)).eraseIdx a).map rowf)) := Lib.hid (by rw [← hyl.out]; exact ho7.out)
              have hR7 := Lib.hid (hR5.out.grown hg7.out hB5 (fun q hq => ⟨(hl5.out.up q hq).1, hs1.out.1 q hq⟩))
              have hO7 := Lib.hid (hO5.out.grown hg7.out hB5 (fun q hq => ⟨(hl5.out.up q hq).1, hs1.out.2 q hq⟩))
              have hB7 : B ≤ w7.heap.size := Nat.le_trans hB5 hg7.out.size
              have hq7 : Hid (Below w.heap.size w w7) := Lib.hid (hq5.out.grown hg7.out hq5.out.size (fun q hq => Nat.le_trans hwB (hl5.out.up q hq).1))
              have hs7 : Hid (Sep v7 (.slice (some ⟨b, o, none⟩) m cc) ∧ Sep v7 v8) := Lib.hid ⟨fun q hq h2 => by
                rcases hown7.out with h | h
                · rw [h] at hq; exact hs1.out.1 q hq h2
                · rw [h] at hq
                  injection hq with hq
                  have hbl2 : b < wi.heap.size := by
                    obtain ⟨b9, o9, c9, e9, -, hb9⟩ := hR1.out.form0 (by rw [List.length_map, hm.out]; omega)
                    injection e9 with e9 _ _
                    injection e9 with e9
                    injection e9 with e9 _ _
                    omega
                  injection h2 with h2
                  simp at hq h2
                  omega, fun q hq h2 => by
                rcases hown7.out with h | h
                · rw [h] at hq; exact hs1.out.2 q hq h2
                · rw [h] at hq
                  injection hq with hq
                  have := (hO1.out.up q h2).2
                  simp at hq
                  omega⟩
              clear ho7 hg7 hown7 hl5 hR5 hO5 hq5 hrd5 hlit hrs hlc' hcm' hcell
              go_roundw
              case rel => first | exact ⟨s + 1, v7, by omega, by go_num, rfl, hB7, hl7, hR7, hO7, hs7, hq7⟩ | ((repeat apply Exists.intro); exact ⟨⟨s + 1, v7, by omega, by go_num, rfl, hB7, hl7, hR7, hO7, hs7, hq7⟩, rfl⟩)
              case measure => simp [intOf]; omega
          · obtain rfl : s = m := by omega
            have is : decide ((s : Int) < (s : Int)) = false := decide_eq_false (by omega)
            have hfull : (left.take s).eraseIdx a = left.eraseIdx a := by rw [List.take_of_length_le (by rw [hm.out]; omega)]
            rw [hfull] at hl1
            have hR3 : Hid (RR wi B xl ((left.eraseIdx a).map rowf)) := Lib.hid hl1.out.rr
            have hO3 : Hid (AB wi B v8 ((rs ++ [z]).map rowf)) := Lib.hid (by rw [List.map_append]; exact hO1.out)
            have hS3 : Hid (Sep v8 xl) := Lib.hid (fun q hq h2 => hs1.out.2 q h2 hq)
            have hP3 : Hid (((rs ++ [z]) ++ left.eraseIdx a).Nodup ∧ (∀ r, r ∈ (rs ++ [z]) ++ left.eraseIdx a → r < n) ∧ (rs ++ [z]).length = t + 1 ∧ (left.eraseIdx a).length + (t + 1) = n) := Lib.hid (by
              have hal : a < left.length := by rw [hm.out]; exact hamm
              have hze : left[a] = z := by
                have h1 := hz.out
                rw [List.getElem?_eq_getElem hal] at h1
                injection h1
              have hpm := pick_perm (rs := rs) hal
              rw [hze] at hpm
              obtain ⟨p1, p2, p3, p4⟩ := hP.out
              refine ⟨hpm.nodup_iff.mpr p1, fun r hr => p2 r (hpm.mem_iff.mp hr), by simp [p3], ?_⟩
              rw [List.length_eraseIdx_of_lt hal]
              omega)
            clear hl1 hR1 hO1 hs1 hfull
            go_wp2_with fail
            go_roundw
            case rel => first | exact ⟨t + 1, rs ++ [z], left.eraseIdx a, xl, v8, by omega, by go_num, rfl, rfl, hBi, hR3, hO3, hS3, hP3, hq1⟩ | ((repeat apply Exists.intro); exact ⟨⟨t + 1, rs ++ [z], left.eraseIdx a, xl, v8, by omega, by go_num, rfl, rfl, hBi, hR3, hO3, hS3, hP3, hq1⟩, rfl⟩)
            case measure => simp [intOf]; omega
      · have it : decide ((t : Int) < (np : Int)) = false := decide_eq_false (by omega)
        have hamm : 0 < m := hm0
        obtain ⟨z, hz⟩ : ∃ z, left[0]? = some z := ⟨_, List.getElem?_eq_getElem (by rw [hm.out]; exact hamm)⟩
        obtain ⟨A', c', hcell, hrd, hlc, hcm⟩ := hR.out.cell (i := 0) (l := rowf z) (by rw [List.getElem?_map, hz]; rfl)
        rw [Nat.add_zero] at hcell
        replace hz := Lib.hid hz
        have ia : (0 : Int) < (m : Int) := by omega
        have hbb : Below wo.heap.size wo (wo.alloc (.cells #[.slice A' (rowf z).length c'] 29)) := (Below.refl _ _).alloc (Nat.le_refl _) _
        have hlit := Lib.hid (reads_one wo 29 (.slice A' (rowf z).length c'))
        have hO5 := Lib.hid (hO.out.below hbb hBr)
        have hR5 := Lib.hid (hR.out.below hbb hBr)
        have hq5 := Lib.hid (hq3.out.trans (hbb.mono hq3.out.size))
        have hrd5 := Lib.hid (hrd.keep (fun p hp => hbb.cell (by omega)))
        have hB5 : B ≤ (wo.alloc (.cells #[.slice A' (rowf z).length c'] 29)).heap.size := by simp; omega
        have hrs : Hid ((rs.map rowf).length ≤ 1000000) := Lib.hid (by rw [List.length_map]; have := hP.out.2.2.1; omega)
        have hlc' := Lib.hid hlc
        have hcm' := Lib.hid hcm
        clear hbb hrd hlc hcm
        go_wp2_with (at_builtin; go_must (refine wpl_append_sh rfl (.tmp 38) (.tmp 43) rfl B xo (rs.map rowf) rfl hO5.out A' c' (rowf z) hrd5.out hlc'.out hcm'.out _ _ 1 rfl hlit.out hrs.out hB5 ?_); intro v8 w8 ho8 hg8 hown8; replace ho8 := Lib.hid ho8; replace hg8 := Lib.hid hg8; replace hown8 := Lib.hid hown8)
        have hR8 := hR5.out.grown hg8.out hB5 (fun q hq => ⟨(hO5.out.up q hq).1, hS.out q hq⟩)
        have hS8 : Hid (Sep v8 (.slice (some ⟨b, o, none⟩) m cc)) := Lib.hid (fun q hq h2 => by
          rcases hown8.out with h | h
          · rw [h] at hq; exact hS.out q hq h2
          · rw [h] at hq
            injection hq with hq
            injection h2 with h2
            simp at hq h2
            omega)
        have hB8 : B ≤ w8.heap.size := Nat.le_trans hB5 hg8.out.size
        have hq8 : Below w.heap.size w w8 := hq5.out.grown hg8.out hq5.out.size (fun q hq => Nat.le_trans hwB (hO5.out.up q hq).1)
        have hbb : Below w8.heap.size w8 (w8.alloc (.cells #[] 29)) := (Below.refl _ _).alloc (Nat.le_refl _) _
        have hR9 := Lib.hid (hR8.below hbb hB8)
        have hO9 := Lib.hid (ho8.out.below hbb hB8)
        have hq9 := Lib.hid (hq8.trans (hbb.mono hq8.size))
        have hab9 : Hid (AB (w8.alloc (.cells #[] 29)) B (.slice (some ⟨w8.heap.size, 0, none⟩) 0 0) (((left.take 0).eraseIdx 0).map rowf)) := Lib.hid (AB.empty w8 B hB8)
        have hs9 : Hid (Sep (.slice (some ⟨w8.heap.size, 0, none⟩) 0 0) (.slice (some ⟨b, o, none⟩) m cc) ∧ Sep (.slice (some ⟨w8.heap.size, 0, none⟩) 0 0) v8) := Lib.hid ⟨fun q hq h2 => by
          injection hq with hq
          injection h2 with h2
          have := hg8.out.size
          simp at hq h2 this
          omega, fun q hq h2 => by
          injection hq with hq
          have := (ho8.out.up q h2).2
          simp at hq
          omega⟩
        have hB9 : B ≤ (w8.alloc (.cells #[] 29)).heap.size := by simp; omega
        obtain ⟨w9, hw9⟩ : ∃ x, w8.alloc (.cells #[] 29) = x := ⟨_, rfl⟩
        rw [hw9] at hR9 hO9 hq9 hab9 hB9 ⊢
        replace hw9 := Lib.hid hw9
        clear hO5 hR5 hrd5 hB5 hlit hrs hlc' hcm' hcell hR8 hB8 hq8 hbb ho8 hg8 hown8 hR hO hS hq3 hBr
        go_loopw [11, 12] (fun vl j wi => ∃ (s : Nat) (xl : Value), s ≤ m ∧ j = .int .i64 s ∧ xl = vl ∧ B ≤ wi.heap.size ∧ Hid (AB wi B xl (((left.take s).eraseIdx 0).map rowf)) ∧ Hid (RR wi B (.slice (some ⟨b, o, none⟩) m cc) (left.map rowf)) ∧ Hid (AB wi B v8 (rs.map rowf ++ [rowf z])) ∧ Hid (Sep xl (.slice (some ⟨b, o, none⟩) m cc) ∧ Sep xl v8) ∧ Hid (Below w.heap.size w wi)) (fun _ j _ => m - (intOf j).toNat)
        case atStart => exact ⟨0, _, Nat.zero_le _, rfl, rfl, hB9, hab9, hR9, hO9, hs9, hq9⟩
        case round =>
          obtain ⟨s, xl, hs, rfl, rfl, hBi, hl1, hR1, hO1, hs1, hq1⟩ := hrel
          clear hB9 hab9 hR9 hO9 hs9 hq9
          obtain ⟨wi, hwi⟩ : ∃ wi, wi = wr := ⟨_, rfl⟩
          subst hwi
          by_cases hsm : s < m
          · have is : (s : Int) < (m : Int) := by omega
            by_cases hsa : s = 0
            · have isa : ((s : Int) != (0 : Int)) = false := by rw [hsa]; simp
              have hl2 : Hid (AB wi B xl (((left.take (s + 1)).eraseIdx 0).map rowf)) := Lib.hid (by rw [take_erase_at2 hsa (by rw [hm.out]; exact hsm)]; exact hl1.out)
              replace hsa := Lib.hid hsa
              go_wp2_with fail
              go_roundw
              case rel => first | exact ⟨s + 1, xl, by omega, by go_num, rfl, hBi, hl2, hR1, hO1, hs1, hq1⟩ | ((repeat apply Exists.intro); exact ⟨⟨s + 1, xl, by omega, by go_num, rfl, hBi, hl2, hR1, hO1, hs1, hq1⟩, rfl⟩)
              case measure => simp [intOf]; omega
            · have isa : ((s : Int) != (0 : Int)) = true := by simp; omega
              obtain ⟨y, hy⟩ : ∃ y, left[s]? = some y := ⟨_, List.getElem?_eq_getElem (by rw [hm.out]; exact hsm)⟩
              obtain ⟨A', c', hcell, hrd, hlc, hcm⟩ := hR1.out.cell (i := s) (l := rowf y) (by rw [List.getElem?_map, hy]; rfl)
              have hyl : Hid (((left.take s).eraseIdx 0).map rowf ++ [rowf y] = ((left.take (s + 1)).eraseIdx 0).map rowf) := Lib.hid (by
                rw [take_erase_ne (by rw [hm.out]; exact hsm) hsa, List.map_append]
                obtain ⟨hh, he⟩ := List.getElem?_eq_some_iff.mp hy
                rw [he]; rfl)
              replace hy := Lib.hid hy
              replace hsa := Lib.hid hsa
              have hbb : Below wi.heap.size wi (wi.alloc (.cells #[.slice A' (rowf y).length c'] 29)) := (Below.refl _ _).alloc (Nat.le_refl _) _
              have hlit := Lib.hid (reads_one wi 29 (.slice A' (rowf y).length c'))
              have hl5 := Lib.hid (hl1.out.below hbb hBi)
              have hR5 := Lib.hid (hR1.out.below hbb hBi)
              have hO5 := Lib.hid (hO1.out.below hbb hBi)
              have hq5 := Lib.hid (hq1.out.trans (hbb.mono hq1.out.size))
              have hrd5 := Lib.hid (hrd.keep (fun p hp => hbb.cell (by omega)))
              have hB5 : B ≤ (wi.alloc (.cells #[.slice A' (rowf y).length c'] 29)).heap.size := by simp; omega
              have hrs : Hid ((((left.take s).eraseIdx 0).map rowf).length ≤ 1000000) := Lib.hid (by
                rw [List.length_map]
                have h1 := List.length_eraseIdx_le (left.take s) 0
                rw [List.length_take] at h1
                omega)
              have hlc' := Lib.hid hlc
              have hcm' := Lib.hid hcm
              clear hbb hrd hlc hcm
              go_wp2_with (at_builtin; go_must (refine wpl_append_sh rfl (.tmp 55) (.tmp 60) rfl B xl (((left.take s).eraseIdx 0).map rowf) rfl hl5.out A' c' (rowf y) hrd5.out hlc'.out hcm'.out _ _ 1 rfl hlit.out hrs.out hB5 ?_); intro v7 w7 ho7 hg7 hown7; replace ho7 := Lib.hid ho7; replace hg7 := Lib.hid hg7; replace hown7 := Lib.hid hown7)
              have hl7 : Hid (AB w7 B v7 (((left.take (s + 1)).eraseIdx 0).map rowf)) := Lib.hid (by rw [← hyl.out]; exact ho7.out)
              have hR7 := Lib.hid (hR5.out.grown hg7.out hB5 (fun q hq => ⟨(hl5.out.up q hq).1, hs1.out.1 q hq⟩))
              have hO7 := Lib.hid (hO5.out.grown hg7.out hB5 (fun q hq => ⟨(hl5.out.up q hq).1, hs1.out.2 q hq⟩))
              have hB7 : B ≤ w7.heap.size := Nat.le_trans hB5 hg7.out.size
              have hq7 : Hid (Below w.heap.size w w7) := Lib.hid (hq5.out.grown hg7.out hq5.out.size (fun q hq => Nat.le_trans hwB (hl5.out.up q hq).1))
              have hs7 : Hid (Sep v7 (.slice (some ⟨b, o, none⟩) m cc) ∧ Sep v7 v8) := Lib.hid ⟨fun q hq h2 => by
                rcases hown7.out with h | h
                · rw [h] at hq; exact hs1.out.1 q hq h2
                · rw [h] at hq
                  injection hq with hq
                  have hbl2 : b < wi.heap.size := by
                    obtain ⟨b9, o9, c9, e9, -, hb9⟩ := hR1.out.form0 (by rw [List.length_map, hm.out]; omega)
                    injection e9 with e9 _ _
                    injection e9 with e9
                    injection e9 with e9 _ _
                    omega
                  injection h2 with h2
                  simp at hq h2
                  omega, fun q hq h2 => by
                rcases hown7.out with h | h
                · rw [h] at hq; exact hs1.out.2 q hq h2
                · rw [h] at hq
                  injection hq with hq
                  have := (hO1.out.up q h2).2
                  simp at hq
                  omega⟩
              clear ho7 hg7 hown7 hl5 hR5 hO5 hq5 hrd5 hlit hrs hlc' hcm' hcell
              go_roundw
              case rel => first | exact ⟨s + 1, v7, by omega, by go_num, rfl, hB7, hl7, hR7, hO7, hs7, hq7⟩ | ((repeat apply Exists.intro); exact ⟨⟨s + 1, v7, by omega, by go_num, rfl, hB7, hl7, hR7, hO7, hs7, hq7⟩, rfl⟩)
              case measure => simp [intOf]; omega
          · obtain rfl : s = m := by omega
            have is : decide ((s : Int) < (s : Int)) = false := decide_eq_false (by omega)
            have hfull : (left.take s).eraseIdx 0 = left.eraseIdx 0 := by rw [List.take_of_length_le (by rw [hm.out]; omega)]
            rw [hfull] at hl1
            have hR3 : Hid (RR wi B xl ((left.eraseIdx 0).map rowf)) := Lib.hid hl1.out.rr
            have hO3 : Hid (AB wi B v8 ((rs ++ [z]).map rowf)) := Lib.hid (by rw [List.map_append]; exact hO1.out)
            have hS3 : Hid (Sep v8 xl) := Lib.hid (fun q hq h2 => hs1.out.2 q h2 hq)
            have hP3 : Hid (((rs ++ [z]) ++ left.eraseIdx 0).Nodup ∧ (∀ r, r ∈ (rs ++ [z]) ++ left.eraseIdx 0 → r < n) ∧ (rs ++ [z]).length = t + 1 ∧ (left.eraseIdx 0).length + (t + 1) = n) := Lib.hid (by
              have hal : 0 < left.length := by rw [hm.out]; exact hamm
              have hze : left[0] = z := by
                have h1 := hz.out
                rw [List.getElem?_eq_getElem hal] at h1
                injection h1
              have hpm := pick_perm (rs := rs) hal
              rw [hze] at hpm
              obtain ⟨p1, p2, p3, p4⟩ := hP.out
              refine ⟨hpm.nodup_iff.mpr p1, fun r hr => p2 r (hpm.mem_iff.mp hr), by simp [p3], ?_⟩
              rw [List.length_eraseIdx_of_lt hal]
              omega)
            clear hl1 hR1 hO1 hs1 hfull
            go_wp2_with fail
            go_roundw
            case rel => first | exact ⟨t + 1, rs ++ [z], left.eraseIdx 0, xl, v8, by omega, by go_num, rfl, rfl, hBi, hR3, hO3, hS3, hP3, hq1⟩ | ((repeat apply Exists.intro); exact ⟨⟨t + 1, rs ++ [z], left.eraseIdx 0, xl, v8, by omega, by go_num, rfl, rfl, hBi, hR3, hO3, hS3, hP3, hq1⟩, rfl⟩)
            case measure => simp [intOf]; omega
    · obtain rfl : t = k := by omega
      obtain ⟨Ao, co, eo⟩ := hO.out.form
      have hfin : Hid (Tbl (rs.map rowf) xo wo) := Lib.hid (hO.out.tbl hBr)
      have ik : decide ((t : Int) < (t : Int)) = false := decide_eq_false (by omega)
      clear eo
      go_wp2_with fail
      go_ret
      refine ⟨_, rs, rfl, hfin, Lib.hid ⟨(List.nodup_append.mp hP.out.1).1, hP.out.2.2.1, fun r hr => hP.out.2.1 r (List.mem_append_left _ hr)⟩, hq3.out⟩
end Go.Proofs.Ytpeilgeloaogfaa
