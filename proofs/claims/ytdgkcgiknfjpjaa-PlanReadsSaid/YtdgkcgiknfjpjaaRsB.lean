/- rs: unlike groups have three unlike shards. -/
import Derived.Test.YtdgkcgiknfjpjaaRsA2
namespace Go.Proofs.Ytdgkcgiknfjpjaa
set_option linter.unusedVariables false
set_option linter.unusedSimpArgs false
open Go Go.RowKit
theorem filt_len (p : Nat → Bool) : ∀ l : List Nat, (l.filter p).length + (l.filter (fun x => !(p x))).length = l.length
  | [] => rfl
  | a :: l => by
    have := filt_len p l
    cases h : p a with
    | true => rw [List.filter_cons_of_pos h, List.filter_cons_of_neg (by rw [h]; decide), List.length_cons, List.length_cons]; omega
    | false => rw [List.filter_cons_of_neg (by rw [h]; decide), List.filter_cons_of_pos (by rw [h]; rfl), List.length_cons, List.length_cons]; omega
def dif (l1 l2 : List UInt8) (r : Nat) : Bool := !(row 16 (encM l1 r) == row 16 (encM l2 r))
theorem wrong_three {l1 l2 : List UInt8} (h1 : l1.length = 128) (h2 : l2.length = 128) (hne : l1 ≠ l2) : 3 ≤ ((List.range 10).filter (dif l1 l2)).length := by
  refine Nat.le_of_not_lt (fun hlt => hne ?_)
  have hf := filt_len (dif l1 l2) (List.range 10)
  rw [List.length_range] at hf
  have hE := solve_one (is := ((List.range 10).filter (fun x => !(dif l1 l2 x))).take 8) (m := 16) (D := partM 16 l1) (D' := partM 16 l2) ((List.nodup_range.sublist List.filter_sublist).sublist (List.take_sublist _ _)) (by rw [List.length_take]; omega)
    (fun r hr => List.mem_range.mp (List.mem_filter.mp (List.mem_of_mem_take hr)).1) (fun i j hi hj => by
      have hm : (((List.range 10).filter (fun x => !(dif l1 l2 x))).take 8).getD i 0 ∈ ((List.range 10).filter (fun x => !(dif l1 l2 x))).take 8 := by
        rw [List.getD_eq_getElem?_getD, List.getElem?_eq_getElem (by rw [List.length_take]; omega)]
        exact List.getElem_mem _
      have h3 := (List.mem_filter.mp (List.mem_of_mem_take hm)).2
      unfold dif at h3
      rw [Bool.not_not, beq_iff_eq] at h3
      exact row_eq h3 j hj)
  rw [← flat_part (n := 8) (m := 16) (by decide) h1, ← flat_part (n := 8) (m := 16) (by decide) h2]
  exact flat_congr hE
theorem wrong_none {l1 : List UInt8} : ((List.range 10).filter (dif l1 l1)).length = 0 := by
  have : (List.range 10).filter (dif l1 l1) = [] := List.filter_eq_nil_iff.mpr (fun r _ => by unfold dif; simp)
  rw [this]; rfl
theorem dif_succ (l1 l2 : List UInt8) (k : Nat) : ((List.range (k + 1)).filter (dif l1 l2)).length = ((List.range k).filter (dif l1 l2)).length + (if dif l1 l2 k = true then 1 else 0) := by
  rw [List.range_succ, List.filter_append, List.length_append]
  congr 1
  by_cases h : dif l1 l2 k = true
  · rw [List.filter_cons_of_pos h, if_pos h]; rfl
  · rw [List.filter_cons_of_neg h, if_neg h]; rfl
theorem OB.gr {w w' : World} {base : Nat} {v : Value} {l : List UInt8} (hr : Gr w w') (h : Hid (OB w base v l)) : Hid (OB w' base v l) := Lib.hid (h.out.below hr)
theorem TB.gr {w w' : World} {base g n m : Nat} {G C : Nat → Nat} {M : Mx} (hr : Gr w w') (h : Hid (TB w base g n m G C M)) : Hid (TB w' base g n m G C M) := Lib.hid (h.out.below hr)
theorem enc_p {A : Option Addr} {c : Nat} {l : List UInt8} (w0 w : World) (h0 : Hid (Gr w0 w)) (hl : Hid (l.length = 128)) (h : Hid (OB w w0.heap.size (.slice A 128 c) l)) :
    Calls Try.prog 45 #[.slice A 128 c] w fun e w' => ∃ g G C, e = .returned (.tuple #[.slice (some ⟨g, 0, none⟩) 10 10, .int .i64 0]) ∧ Hid (TB w' w0.heap.size g 10 16 G C (encM l)) ∧ Gr w w' := by
  have hrd := OB.rd h.out
  obtain ⟨A2, c2, e2, k1, k2, -⟩ := h.out.form
  injection e2 with e21 e22 e23
  subst e23
  rw [hl.out] at k1
  refine (rsenc_ok A c l k1 k2 hl.out w hrd.1).mono ?_
  rintro e w' ⟨g, G, C, rfl, h1, h2⟩
  exact ⟨g, G, C, rfl, Lib.hid (h1.more h0.out.size), h2⟩
theorem TB.row_at {w : World} {base g n m : Nat} {G C : Nat → Nat} {M : Mx} (h : TB w base g n m G C M) {i : Nat} (hi : i < n) : w.cell? ⟨g, i, none⟩ = some (.slice (some ⟨G i, 0, none⟩) m (C i)) ∧ Rd w w.heap.size (some ⟨G i, 0, none⟩) (row m (M i)) := ⟨h.cell hi, (h.rd hi).1⟩
end Go.Proofs.Ytdgkcgiknfjpjaa
/- rs: the reference's Encode. -/
namespace Go.Proofs.Ytdgkcgiknfjpjaa
set_option linter.unusedVariables false
set_option linter.unusedSimpArgs false
open Go Go.RowKit
set_option maxHeartbeats 4000000 in
set_option maxRecDepth 20000 in
theorem factor_any (s i : Nat) (hs : s < 256) (hi : i < 256) (hne : s ≠ i) (w : World) :
    Calls Try.prog 72 #[.int .i64 s, .int .i64 i] w fun e w' => e = .returned (.int .u8 (U (ginv (fx s i)))) ∧ w = w' := by
  have hres : Hid (ginv (fx s i) = gmul 1 (gpow (UInt8.ofNat (s ^^^ i)) 254)) := Lib.hid (by rw [gmul_one_l]; rfl)
  have hne2 : UInt8.ofNat (s ^^^ i) ≠ 0 := fx_ne hs hi hne
  have hx := xor_i64 s i (by omega) (by omega)
  obtain ⟨x, hxe⟩ : ∃ x, s ^^^ i = x := ⟨_, rfl⟩
  rw [hxe] at hx hne2 hres
  have hd := rdiv_any 1 (UInt8.ofNat x) w
  rw [if_neg hne2] at hd
  replace hd := Lib.hid hd
  replace hxe := Lib.hid hxe
  replace hne2 := Lib.hid hne2
  go_enter Try.func72, Try.ntmps72
  go_wp2_with fail
  refine hd.out.mono ?_
  rintro e w' ⟨rfl, rfl⟩
  go_wp2_with fail
  go_ret
  exact ⟨by rw [hres.out]; rfl, rfl⟩
/-- what a sum has come to -/
def sM (l : List UInt8) (s i j : Nat) : UInt8 := gsum i (fun k => gmul (codeE 8 s k) (partM 16 l k j))
def sRow (l : List UInt8) (s i b : Nat) : List UInt8 := row 16 (fun j => if j < b then sM l s (i + 1) j else sM l s i j)
theorem sRow_set {l : List UInt8} {s i b : Nat} (hi : 8 ≤ s) : (sRow l s i b).set b (sM l s i b ^^^ gmul (ginv (fx s i)) (l.getD (16 * i + b) 0)) = sRow l s i (b + 1) := by
  unfold sRow
  rw [row_set]
  refine row_congr (fun j _ => ?_)
  by_cases e : j = b
  · subst e
    rw [if_pos rfl, if_pos (by omega)]
    show _ = gsum i _ ^^^ gmul (codeE 8 s i) (partM 16 l i j)
    unfold codeE partM
    rw [if_pos hi, Nat.mul_comm]
    rfl
  · by_cases e2 : j < b
    · rw [if_neg e, if_pos e2, if_pos (by omega)]
    · rw [if_neg e, if_neg e2, if_neg (by omega)]
theorem sRow_next (l : List UInt8) (s i : Nat) : sRow l s i 16 = sRow l s (i + 1) 0 := by
  unfold sRow
  exact row_congr (fun j hj => by rw [if_pos hj, if_neg (by omega)])
theorem sRow_start (l : List UInt8) (s : Nat) : sRow l s 0 0 = List.replicate 16 0 := by
  unfold sRow
  rw [← row_zero]
  exact row_congr (fun j hj => by rw [if_neg (by omega)]; rfl)
theorem sRow_end (l : List UInt8) (s : Nat) : sRow l s 8 0 = row 16 (encM l s) := by
  unfold sRow
  exact row_congr (fun j hj => by rw [if_neg (by omega)]; rfl)
theorem sRow_get {l : List UInt8} {s i b : Nat} (hb : b < 16) : (sRow l s i b)[b]? = some (sM l s i b) := by
  unfold sRow
  rw [row_get hb, if_neg (by omega)]
set_option maxHeartbeats 16000000 in
set_option maxRecDepth 20000 in
theorem rrsenc_ok (A : Option Addr) (c : Nat) (l : List UInt8) (hc : 128 ≤ c) (hcm : c ≤ 9223372036854775807) (hl : Hid (l.length = 128)) (w : World) (h : Rd w w.heap.size A l) : Calls Try.prog 47 #[.slice A 128 c] w fun e w' => ∃ A' c', e = .returned (.tuple #[.slice A' 10 c', .int .i64 0]) ∧ Hid (Tbl (tabM 10 16 (encM l)) (.slice A' 10 c') w') ∧ Gr w w' := by
  obtain ⟨b, o, rfl, hb, hcell⟩ := rd_flat h (by rw [hl.out]; decide)
  have hrd := Lib.hid (fun (k : Nat) (hk : k < 8) => rd_part (w := w) (B := w.heap.size) (b := b) (o := o) (l := l) hb hcell (k := k) (m := 16) (by rw [hl.out]; omega))
  replace hcell := Lib.hid hcell
  have hat := Lib.hid (AT.empty w w.heap.size (Nat.le_refl _))
  have hq := Lib.hid ((Below.refl w.heap.size w).alloc (Nat.le_refl _) (.cells #[] 22))
  clear h
  go_enter Try.func47, Try.ntmps47
  go_wp2_with fail
  obtain ⟨w3, hw3⟩ : ∃ w3, w.alloc (.cells #[] 22) = w3 := ⟨_, rfl⟩
  rw [hw3] at hat hq ⊢
  replace hw3 := Lib.hid hw3
  go_loopw [4, 5] (fun v i wr => ∃ (k : Nat) (A1 : Option Addr) (c1 : Nat), k ≤ 8 ∧ i = .int .i64 k ∧ v = .slice A1 k c1 ∧ Hid (AT wr w.heap.size (.slice A1 k c1) (tabM k 16 (encM l))) ∧ Hid (Below w.heap.size w wr)) (fun _ i _ => 8 - (intOf i).toNat)
  case atStart => exact ⟨0, _, _, Nat.zero_le _, rfl, rfl, hat, hq⟩
  case round =>
    obtain ⟨k, A1, c1, hk, rfl, rfl, hat1, hq1⟩ := hrel
    clear hat hq
    obtain ⟨wo, hwo⟩ : ∃ wo, wo = wr := ⟨_, rfl⟩
    subst hwo
    by_cases hlt : k < 8
    · have ik : (k : Int) < 8 := by omega
      have hwsz : w.heap.size ≤ wo.heap.size := hq1.out.size
      have ho := Lib.hid (OB.empty wo wo.heap.size (Nat.le_refl _))
      have hb1 := (Below.refl wo.heap.size wo).alloc (Nat.le_refl _) (.cells #[] 5)
      have hpr : Hid (row 16 (partM 16 l k) = row 16 (encM l k)) := Lib.hid (row_congr (fun j _ => by rw [encM_eq, encD_low hlt]))
      have hrd4 : Hid (Rd (wo.alloc (.cells #[] 5)) w.heap.size (some ⟨b, o + k * 16, none⟩) (row 16 (encM l k))) := Lib.hid (by
        rw [← hpr.out]
        exact (hrd.out k hlt).keep (fun p hp => (hq1.out.trans (hb1.mono hwsz)).cell hp))
      replace hb1 := Lib.hid hb1
      obtain ⟨s, hs⟩ : ∃ s, k * 16 = s := ⟨_, rfl⟩
      rw [hs] at hrd4
      have hs2 : (16 : Int) * (k : Int) = (s : Int) := by omega
      have hs3 : s + 16 ≤ 128 := by omega
      replace hs := Lib.hid hs
      go_wp2_with (first | (at_builtin; (refine wpl_append rfl (.tmp 21) (.tmp 28) rfl wo.heap.size (.slice (some ⟨wo.heap.size, 0, none⟩) 0 0) [] rfl ho.out _ (some ⟨b, o + s, none⟩) (c - s) (row 16 (encM l k)) (by rw [row_length]; exact congrArg (fun n => Value.slice (some ⟨b, o + s, none⟩) n (c - s)) (Nat.add_sub_cancel_left s 16)) hrd4.out (by rw [row_length]; decide) hb1.out.size ?_); intro v5 w5 ho5 hg5 _; have hb5 := below_row ho.out hb1.out hb1.out.size hg5; rw [List.nil_append] at ho5; obtain ⟨A5, c5, rfl, -, -, -, -⟩ := ho5.form; rw [row_length] at ho5 ⊢; have hrow := Lib.hid ho5; have hat5 := Lib.hid (hat1.out.below hb5 hwsz); have hq5 := Lib.hid (hq1.out.trans (hb5.mono hwsz)); clear ho5 hg5 hb5; have hrok : RowOk w5 w.heap.size A5 c5 (row 16 (encM l k)) := .inl (by rw [row_length]; exact hrow.out.more hwsz); have hbb : Below w5.heap.size w5 (w5.alloc (.cells #[.slice A5 16 c5] 22)) := (Below.refl _ _).alloc (Nat.le_refl _) _; have hat3 := Lib.hid (hat5.out.below hbb hq5.out.size); have hrok2 := Lib.hid (hrok.below hbb hq5.out.size); have hq9 := Lib.hid (hq5.out.trans (hbb.mono hq5.out.size)); have hrd9 : Hid (Reads (w5.alloc (.cells #[.slice A5 16 c5] 22)) (w5.alloc (.cells #[.slice A5 16 c5] 22)).heap.size 1 (some ⟨w5.heap.size, 0, none⟩) 1 [.slice A5 (row 16 (encM l k)).length c5]) := Lib.hid (by rw [row_length]; exact reads_one w5 22 (.slice A5 16 c5)); clear hbb hrok hrow hat5 hq5) | (at_builtin; go_must (refine wpl_append_row rfl (.tmp 20) (.tmp 30) rfl w.heap.size (.slice A1 k c1) (tabM k 16 (encM l)) rfl hat3.out A5 c5 (row 16 (encM l k)) hrok2.out _ _ 1 rfl hrd9.out (by rw [tabM_length]; omega) hq9.out.size ?_); intro v8 w8 hat8 hg8; have hq8 := Lib.hid (hq9.out.grown hg8 hq9.out.size hat3.out.up); rw [tabM_snoc] at hat8; obtain ⟨A8, c8, rfl, -, -, -⟩ := hat8.form hq8.out.size; rw [tabM_length] at hat8 ⊢; replace hat8 := Lib.hid hat8; clear hg8))
      go_roundw
      case rel => first | exact ⟨k + 1, A8, c8, by omega, by go_num, rfl, hat8, hq8⟩ | ((repeat apply Exists.intro); exact ⟨⟨k + 1, A8, c8, by omega, by go_num, rfl, hat8, hq8⟩, rfl⟩)
      case measure => simp [intOf]; omega
    · obtain rfl : k = 8 := by omega
      have ik : decide (((8 : Nat) : Int) < 8) = false := by decide
      go_wp2_with fail
      go_loopw [4, 6] (fun v i wr => ∃ (s : Nat) (A1 : Option Addr) (c1 : Nat), 8 ≤ s ∧ s ≤ 10 ∧ i = .int .i64 s ∧ v = .slice A1 s c1 ∧ Hid (AT wr w.heap.size (.slice A1 s c1) (tabM s 16 (encM l))) ∧ Hid (Below w.heap.size w wr)) (fun _ i _ => 10 - (intOf i).toNat)
      case atStart => exact ⟨8, _, _, Nat.le_refl _, by decide, rfl, rfl, hat1, hq1⟩
      case round =>
        obtain ⟨s, A2, c2, hs8, hs10, rfl, rfl, hat2, hq2⟩ := hrel
        clear hat1 hq1 ik
        obtain ⟨wp, hwp⟩ : ∃ wp, wp = wr := ⟨_, rfl⟩
        subst hwp
        by_cases hlt : s < 10
        · have is : (s : Int) < 10 := by omega
          have hwsz : w.heap.size ≤ wp.heap.size := hq2.out.size
          go_wp2_with (refine wpl_make rfl (.const (.int .i64 16)) (.const (.int .i64 16)) rfl wp.heap.size 16 rfl rfl (by omega) (Nat.le_refl _) ?_; intro w5 ho5 hb5; replace ho5 := Lib.hid ho5; replace hb5 := Lib.hid hb5)
          have hr0 : Hid (OB w5 wp.heap.size (.slice (some ⟨wp.heap.size, 0, none⟩) 16 16) (sRow l s 0 0)) := Lib.hid (by rw [sRow_start]; exact ho5.out)
          clear ho5
          go_loopw [8] (fun i wr => ∃ k : Nat, k ≤ 8 ∧ i = .int .i64 k ∧ Hid (OB wr wp.heap.size (.slice (some ⟨wp.heap.size, 0, none⟩) 16 16) (sRow l s k 0)) ∧ Hid (Below wp.heap.size wp wr)) (fun i _ => 8 - (intOf i).toNat)
          case atStart => exact ⟨0, Nat.zero_le _, rfl, hr0, hb5⟩
          case round =>
            obtain ⟨k, hk, rfl, hrow, hbw⟩ := hrel
            clear hr0 hb5
            obtain ⟨wi, hwi⟩ : ∃ wi, wi = wr := ⟨_, rfl⟩
            subst hwi
            by_cases hlk : k < 8
            · have ik : (k : Int) < 8 := by omega
              have hfa := Lib.hid (factor_any s k (by omega) (by omega) (by omega) wi)
              go_wp2_with fail
              refine hfa.out.mono ?_
              rintro e w' ⟨rfl, rfl⟩
              obtain ⟨f, hf⟩ : ∃ f, ginv (fx s k) = f := ⟨_, rfl⟩
              rw [hf]
              replace hf := Lib.hid hf
              clear hfa
              go_wp2_with fail
              go_loopw [10] (fun i wr => ∃ j : Nat, j ≤ 16 ∧ i = .int .i64 j ∧ Hid (OB wr wp.heap.size (.slice (some ⟨wp.heap.size, 0, none⟩) 16 16) (sRow l s k j)) ∧ Hid (Below wp.heap.size wp wr)) (fun i _ => 16 - (intOf i).toNat)
              case atStart => exact ⟨0, Nat.zero_le _, rfl, hrow, hbw⟩
              case round =>
                obtain ⟨j, hj, rfl, hrow2, hbw2⟩ := hrel
                clear hrow hbw
                by_cases hlj : j < 16
                · have ij : (j : Int) < 16 := by omega
                  have hx : 16 * k + j < l.length := by rw [hl.out]; omega
                  have hq9 := hq2.out.trans (hbw2.out.mono hwsz)
                  have x1 := (hq9.cell (p := ⟨b, o + (16 * k + j), none⟩) hb).trans (hcell.out _ _ (List.getElem?_eq_getElem hx))
                  have hv : Hid (l.getD (16 * k + j) 0 = l[16 * k + j]) := Lib.hid (by rw [List.getD_eq_getElem?_getD, List.getElem?_eq_getElem hx]; rfl)
                  obtain ⟨x, hxe⟩ : ∃ x, l[16 * k + j] = x := ⟨_, rfl⟩
                  rw [hxe] at x1 hv
                  obtain ⟨ad, ead, -, x2⟩ := (OB.rd hrow2.out).1.get (sRow_get hlj)
                  injection ead with ead
                  subst ead
                  obtain ⟨y, hy⟩ : ∃ y, sM l s k j = y := ⟨_, rfl⟩
                  rw [hy] at x2
                  obtain ⟨t0, ht0⟩ : ∃ t0, 16 * k = t0 := ⟨_, rfl⟩
                  have hset := sRow_set (l := l) (i := k) (b := j) hs8
                  rw [hv.out, hf.out, hy] at hset
                  rw [ht0] at x1 hx
                  have hw1 : IntKind.i64.wrap (16 * (k : Int)) = (t0 : Int) := by rw [IntKind.wrap_i64]; omega
                  obtain ⟨t, ht⟩ : ∃ t, t0 + j = t := ⟨_, rfl⟩
                  rw [ht] at x1 hx
                  have hw2 : IntKind.i64.wrap ((t0 : Int) + (j : Int)) = (t : Int) := by rw [IntKind.wrap_i64]; omega
                  have ht128 : (t : Int) < 128 := by omega
                  have ht128n : t < 128 := by omega
                  replace hxe := Lib.hid hxe
                  replace hy := Lib.hid hy
                  replace ht0 := Lib.hid ht0
                  replace ht := Lib.hid ht
                  replace hx := Lib.hid hx
                  replace hset := Lib.hid hset
                  go_wp2_with fail
                  obtain ⟨wd, hwd⟩ : ∃ wd, wd = wr.drew := ⟨_, rfl⟩
                  have hzd : OB wd wp.heap.size (.slice (some ⟨wp.heap.size, 0, none⟩) 16 16) (sRow l s k j) := by rw [hwd]; exact hrow2.out.drew
                  have hbd : Below wp.heap.size wp wd := by rw [hwd]; exact hbw2.out.drew
                  have y1 : wd.cell? ⟨b, o + t, none⟩ = some (.int .u8 (U x)) := by rw [hwd]; exact x1
                  have y2 : wd.cell? ⟨wp.heap.size, j, none⟩ = some (.int .u8 (U y)) := by
                    rw [hwd]
                    have e3 : (⟨wp.heap.size, 0, none⟩ : Addr).add j = ⟨wp.heap.size, j, none⟩ := by unfold Addr.add; split <;> simp_all
                    rw [e3] at x2
                    exact x2
                  obtain ⟨g5, eg5, hg5, hg5', hc5, hf5, hst5⟩ := hzd.store (k := j) (by unfold sRow; rw [row_length]; exact hlj)
                  injection eg5 with eg5
                  injection eg5 with eg5 _ _
                  subst eg5
                  have hnew : Hid (OB (wd.setCell ⟨wp.heap.size, j, none⟩ (.int .u8 (U (y ^^^ gmul f x)))) wp.heap.size (.slice (some ⟨wp.heap.size, 0, none⟩) 16 16) (sRow l s k (j + 1))) := Lib.hid (by rw [← hset.out]; exact hst5 _)
                  have hbn : Hid (Below wp.heap.size wp (wd.setCell ⟨wp.heap.size, j, none⟩ (.int .u8 (U (y ^^^ gmul f x))))) := Lib.hid (hbd.setCell (p := ⟨wp.heap.size, j, none⟩) (Nat.le_refl _) _)
                  clear hst5 hzd hbd x1 x2 hrow2 hbw2 hq9 hset
                  refine wpR_region (Eq) 15 (by kernel_rfl) ?_
                  (rw [← hwd]; replace hwd := Lib.hid hwd)
                  refine wpR_take (i := 0) (v := ?_) (⟨fun _ => rfl, Eq.trans⟩) (some 48) rfl (by kernel_rfl) (by kernel_rfl) (by kernel_rfl) (by kernel_rfl) (by kernel_rfl) (fun _ _ _ h => h) (by kernel_rfl) (fun w' hw' => ?_) ?_
                  rotate_left
                  · go_simp; with_reducible rfl
                  simp only [Act.put, List.setIfInBounds_toArray, List.set_cons_zero, List.set_cons_succ]
                  refine wpR_take (i := 1) (v := ?_) (⟨fun _ => rfl, Eq.trans⟩) (some 49) rfl (by kernel_rfl) (by kernel_rfl) (by kernel_rfl) (by kernel_rfl) (by kernel_rfl) (fun _ _ _ h => h) (by kernel_rfl) (fun w' hw' => ?_) ?_
                  rotate_left
                  · go_simp; with_reducible rfl
                  simp only [Act.put, List.setIfInBounds_toArray, List.set_cons_zero, List.set_cons_succ]
                  refine wpR_take (i := 2) (v := ?_) (⟨fun _ => rfl, Eq.trans⟩) (some 50) rfl (by kernel_rfl) (by kernel_rfl) (by kernel_rfl) (by kernel_rfl) (by kernel_rfl) (fun _ _ _ h => h) (by kernel_rfl) (fun w' hw' => ?_) ?_
                  rotate_left
                  · go_simp; with_reducible rfl
                  simp only [Act.put, List.setIfInBounds_toArray, List.set_cons_zero, List.set_cons_succ]
                  refine wpR_take (i := 3) (v := ?_) (⟨fun _ => rfl, Eq.trans⟩) (some 51) rfl (by kernel_rfl) (by kernel_rfl) (by kernel_rfl) (by kernel_rfl) (by kernel_rfl) (fun _ _ _ h => h) (by kernel_rfl) (fun w' hw' => ?_) ?_
                  rotate_left
                  · subst hw'; go_simp; with_reducible rfl
                  simp only [Act.put, List.setIfInBounds_toArray, List.set_cons_zero, List.set_cons_succ]
                  refine wpR_take (i := 4) (v := ?_) (⟨fun _ => rfl, Eq.trans⟩) (some 52) rfl (by kernel_rfl) (by kernel_rfl) (by kernel_rfl) (by kernel_rfl) (by kernel_rfl) (fun _ _ _ h => h) (by kernel_rfl) (fun w' hw' => ?_) ?_
                  rotate_left
                  · go_simp; with_reducible rfl
                  simp only [Act.put, List.setIfInBounds_toArray, List.set_cons_zero, List.set_cons_succ]
                  refine wpR_take (i := 5) (v := ?_) (⟨fun _ => rfl, Eq.trans⟩) (some 53) rfl (by kernel_rfl) (by kernel_rfl) (by kernel_rfl) (by kernel_rfl) (by kernel_rfl) (fun _ _ _ h => h) (by kernel_rfl) (fun w' hw' => ?_) ?_
                  rotate_left
                  · go_simp; with_reducible rfl
                  simp only [Act.put, List.setIfInBounds_toArray, List.set_cons_zero, List.set_cons_succ]
                  refine wpR_take (i := 6) (v := ?_) (⟨fun _ => rfl, Eq.trans⟩) (some 54) rfl (by kernel_rfl) (by kernel_rfl) (by kernel_rfl) (by kernel_rfl) (by kernel_rfl) (fun _ _ _ h => h) (by kernel_rfl) (fun w' hw' => ?_) ?_
                  rotate_left
                  · go_simp; with_reducible rfl
                  simp only [Act.put, List.setIfInBounds_toArray, List.set_cons_zero, List.set_cons_succ]
                  refine wpR_take (i := 7) (v := ?_) (⟨fun _ => rfl, Eq.trans⟩) (some 55) rfl (by kernel_rfl) (by kernel_rfl) (by kernel_rfl) (by kernel_rfl) (by kernel_rfl) (fun _ _ _ h => h) (by kernel_rfl) (fun w' hw' => ?_) ?_
                  rotate_left
                  · go_simp; with_reducible rfl
                  simp only [Act.put, List.setIfInBounds_toArray, List.set_cons_zero, List.set_cons_succ]
                  refine wpR_take (i := 8) (v := ?_) (⟨fun _ => rfl, Eq.trans⟩) (some 56) rfl (by kernel_rfl) (by kernel_rfl) (by kernel_rfl) (by kernel_rfl) (by kernel_rfl) (fun _ _ _ h => h) (by kernel_rfl) (fun w' hw' => ?_) ?_
                  rotate_left
                  · go_simp; with_reducible rfl
                  simp only [Act.put, List.setIfInBounds_toArray, List.set_cons_zero, List.set_cons_succ]
                  refine wpR_take (i := 9) (v := ?_) (⟨fun _ => rfl, Eq.trans⟩) (some 57) rfl (by kernel_rfl) (by kernel_rfl) (by kernel_rfl) (by kernel_rfl) (by kernel_rfl) (fun _ _ _ h => h) (by kernel_rfl) (fun w' hw' => ?_) ?_
                  rotate_left
                  · go_simp; with_reducible rfl
                  simp only [Act.put, List.setIfInBounds_toArray, List.set_cons_zero, List.set_cons_succ]
                  refine wpR_take (i := 10) (v := ?_) (⟨fun _ => rfl, Eq.trans⟩) (some 58) rfl (by kernel_rfl) (by kernel_rfl) (by kernel_rfl) (by kernel_rfl) (by kernel_rfl) (fun _ _ _ h => h) (by kernel_rfl) (fun w' hw' => ?_) ?_
                  rotate_left
                  · go_simp; with_reducible rfl
                  simp only [Act.put, List.setIfInBounds_toArray, List.set_cons_zero, List.set_cons_succ]
                  refine wpR_take (i := 11) (v := ?_) (⟨fun _ => rfl, Eq.trans⟩) (some 59) rfl (by kernel_rfl) (by kernel_rfl) (by kernel_rfl) (by kernel_rfl) (by kernel_rfl) (fun _ _ _ h => h) (by kernel_rfl) (fun w' hw' => ?_) ?_
                  rotate_left
                  · subst hw'; go_simp; with_reducible rfl
                  simp only [Act.put, List.setIfInBounds_toArray, List.set_cons_zero, List.set_cons_succ]
                  refine wpR_one 12 rfl (by kernel_rfl) (by kernel_rfl) (fun K hK => ?_)
                  go_simp
                  refine (rmul_any _ _ _).mono ?_
                  rintro e w' ⟨rfl, rfl⟩
                  refine hK _ _ (fun _ => rfl) ?_
                  clear hK K
                  try simp only [Act.put, List.setIfInBounds_toArray, List.set_cons_zero, List.set_cons_succ]
                  refine wpR_take (i := 13) (v := ?_) (⟨fun _ => rfl, Eq.trans⟩) (some 61) rfl (by kernel_rfl) (by kernel_rfl) (by kernel_rfl) (by kernel_rfl) (by kernel_rfl) (fun _ _ _ h => h) (by kernel_rfl) (fun w' hw' => ?_) ?_
                  rotate_left
                  · go_simp; with_reducible rfl
                  simp only [Act.put, List.setIfInBounds_toArray, List.set_cons_zero, List.set_cons_succ]
                  refine wpR_take (i := 14) (v := ?_) (⟨fun _ => rfl, Eq.trans⟩) (some 62) rfl (by kernel_rfl) (by kernel_rfl) (by kernel_rfl) (by kernel_rfl) (by kernel_rfl) (fun _ _ _ h => h) (by kernel_rfl) (fun w' hw' => ?_) ?_
                  rotate_left
                  · go_simp; with_reducible rfl
                  simp only [Act.put, List.setIfInBounds_toArray, List.set_cons_zero, List.set_cons_succ]
                  refine wpR_one 15 rfl (by kernel_rfl) (by kernel_rfl) (fun K hK => ?_)
                  go_simp
                  refine hK _ _ (fun h => absurd h (by decide)) ?_
                  clear hK K
                  try simp only [Act.put, List.setIfInBounds_toArray, List.set_cons_zero, List.set_cons_succ]
                  refine wpR_done (by kernel_rfl) ?_ _
                  go_wp2_with fail
                  go_roundw
                  case rel => first | exact ⟨j + 1, by omega, by go_num, hnew, hbn⟩ | ((repeat apply Exists.intro); exact ⟨⟨j + 1, by omega, by go_num, hnew, hbn⟩, rfl⟩)
                  case measure => simp [intOf]; omega
                · obtain rfl : j = 16 := by omega
                  have ij : decide (((16 : Nat) : Int) < 16) = false := by decide
                  have hrow3 : Hid (OB wr wp.heap.size (.slice (some ⟨wp.heap.size, 0, none⟩) 16 16) (sRow l s (k + 1) 0)) := Lib.hid (by rw [← sRow_next]; exact hrow2.out)
                  go_wp2_with fail
                  go_roundw
                  case rel => first | exact ⟨k + 1, by omega, by go_num, hrow3, hbw2⟩ | ((repeat apply Exists.intro); exact ⟨⟨k + 1, by omega, by go_num, hrow3, hbw2⟩, rfl⟩)
                  case measure => simp [intOf]; omega
            · obtain rfl : k = 8 := by omega
              have ik : decide (((8 : Nat) : Int) < 8) = false := by decide
              have hrw : OB wi wp.heap.size (.slice (some ⟨wp.heap.size, 0, none⟩) 16 16) (row 16 (encM l s)) := by rw [← sRow_end]; exact hrow.out
              have hat5 := hat2.out.below hbw.out hwsz
              have hq5 := hq2.out.trans (hbw.out.mono hwsz)
              have hrok : RowOk wi w.heap.size (some ⟨wp.heap.size, 0, none⟩) 16 (row 16 (encM l s)) := .inl (by rw [row_length]; exact hrw.more hwsz)
              have hbb : Below wi.heap.size wi (wi.alloc (.cells #[.slice (some ⟨wp.heap.size, 0, none⟩) 16 16] 22)) := (Below.refl _ _).alloc (Nat.le_refl _) _
              have hat3 := Lib.hid (hat5.below hbb hq5.size)
              have hrok2 := Lib.hid (hrok.below hbb hq5.size)
              have hq9 := Lib.hid (hq5.trans (hbb.mono hq5.size))
              have hrd9 : Hid (Reads (wi.alloc (.cells #[.slice (some ⟨wp.heap.size, 0, none⟩) 16 16] 22)) (wi.alloc (.cells #[.slice (some ⟨wp.heap.size, 0, none⟩) 16 16] 22)).heap.size 1 (some ⟨wi.heap.size, 0, none⟩) 1 [.slice (some ⟨wp.heap.size, 0, none⟩) (row 16 (encM l s)).length 16]) := Lib.hid (by rw [row_length]; exact reads_one wi 22 (.slice (some ⟨wp.heap.size, 0, none⟩) 16 16))
              clear hbb hrok hrw hat5 hq5
              go_wp2_with (at_builtin; go_must (refine wpl_append_row rfl (.tmp 63) (.tmp 65) rfl w.heap.size (.slice A2 s c2) (tabM s 16 (encM l)) rfl hat3.out (some ⟨wp.heap.size, 0, none⟩) 16 (row 16 (encM l s)) hrok2.out _ _ 1 rfl hrd9.out (by rw [tabM_length]; omega) hq9.out.size ?_); intro v8 w8 hat8 hg8; have hq8 := Lib.hid (hq9.out.grown hg8 hq9.out.size hat3.out.up); rw [tabM_snoc] at hat8; obtain ⟨A8, c8, rfl, -, -, -⟩ := hat8.form hq8.out.size; rw [tabM_length] at hat8 ⊢; replace hat8 := Lib.hid hat8; clear hg8)
              go_roundw
              case rel => first | exact ⟨s + 1, A8, c8, by omega, by omega, by go_num, rfl, hat8, hq8⟩ | ((repeat apply Exists.intro); exact ⟨⟨s + 1, A8, c8, by omega, by omega, by go_num, rfl, hat8, hq8⟩, rfl⟩)
              case measure => simp [intOf]; omega
        · obtain rfl : s = 10 := by omega
          have is : decide (((10 : Nat) : Int) < 10) = false := by decide
          obtain ⟨A8, c8, e8, h8, h9, h10⟩ := hat2.out.form hq2.out.size
          have hfin : Hid (Tbl (tabM 10 16 (encM l)) (.slice A2 10 c2) wp) := Lib.hid ⟨A8, c8, e8, h8, h9, h10⟩
          clear e8 h8 h9 h10
          go_wp2_with fail
          go_ret2
          exact ⟨A2, c2, rfl, hfin, hq2.out⟩
set_option maxHeartbeats 4000000 in
set_option maxRecDepth 20000 in
def RNo3 (w : World) (e : Ending) (w' : World) : Prop := e = .returned (.tuple #[.slice (some ⟨w.heap.size, 0, none⟩) 0 0, .int .i64 1]) ∧ w' = w.alloc (.cells #[] 22)
theorem rrsenc_no0 (A : Option Addr) (n c : Nat) (hn : n ≠ 128) (hm : n ≤ 9223372036854775807) (w : World) : Calls Try.prog 47 #[.slice A n c] w (RNo3 w) := by
  have d1 : ((n : Int) != 128) = true := by simp; omega
  replace hn := Lib.hid hn
  go_enter Try.func47, Try.ntmps47
  go_wp2_with fail
  go_ret2
  exact ⟨rfl, rfl⟩
theorem rsenc_no (A : Option Addr) (n c : Nat) (hn : n ≠ 128) (hm : n ≤ 9223372036854775807) (w : World) : Calls Try.prog 45 #[.slice A n c] w fun e w' => e = .returned (.tuple #[.slice none 0 0, .int .i64 1]) ∧ w' = w := by
  have d1 : ((n : Int) != 128) = true := by simp; omega
  replace hn := Lib.hid hn
  go_enter Try.func45, Try.ntmps45
  go_wp2_with fail
  go_ret2
  exact ⟨rfl, rfl⟩
end Go.Proofs.Ytdgkcgiknfjpjaa
