/- The laws of label: LabelTurned. -/
import Derived.Test.YticdkmnjolkacabLab17
import Derived.LoopTactic
namespace Go.Proofs.Yticdkmnjolkacab
set_option linter.unusedVariables false
set_option linter.unusedSimpArgs false
open Go Go.RowKit
theorem turned_fact {r : Rc} (hg : goodB r = true) (at_ : Nat) (t : BitVec 32) : (burst (encB r) at_ t 4 = encB r ∧ decB (burst (encB r) at_ t 4) = some r) ∨ (encB r ≠ burst (encB r) at_ t 4 ∧ decB (burst (encB r) at_ t 4) = none) := by
  have hlen := burst_length (encB r) at_ t 4
  have hcr : (crc (encB r) = crc (burst (encB r) at_ t 4)) ↔ encB r = burst (encB r) at_ t 4 := crc_burst at_ hlen.symm (fun i hi => (burst_far (encB r) at_ t 4 i hi).symm)
  generalize burst (encB r) at_ t 4 = y at *
  cases h : decB y with
  | none =>
    refine .inr ⟨fun e => ?_, rfl⟩
    rw [← e, decB_enc hg] at h
    cases h
  | some q =>
    obtain ⟨hq, he⟩ := decB_iff.mp h
    have h2 : crc (encB r) = crc y := by rw [← he, crc_enc, crc_enc]
    have h3 := hcr.mp h2
    have h4 : q = r := by
      have := decB_enc hg
      rw [h3, h] at this
      injection this
    exact .inl ⟨h3.symm, by rw [h4]⟩
set_option maxHeartbeats 8000000 in
set_option maxRecDepth 20000 in
theorem labelTurned_any (r : Rc) (A : Option Addr) (c : Nat) (hok : r.Ok) (at_ : Nat) (hat : at_ ≤ 255) (t : BitVec 32) (w : World) (h : Rd w w.heap.size A r.data) :
    Calls Try.prog 8 #[r.agg A c, .int .u8 at_, .int .u32 (W t)] w fun e w' => e = .returned (.bool true) ∧ Below w.heap.size w w' := by
  have hbb := (Below.refl w.heap.size w).alloc (Nat.le_refl _) (.cells #[.int .i64 r.kind, .int .i64 r.cart, .string (bs r.key), .int .i64 r.gen, .int .i64 r.group, .int .i64 r.groups, .int .i64 r.index, .int .i64 r.size, .string (bs r.sum), .slice A r.data.length c] 34)
  have hR := Lib.hid (h.up hbb)
  have hX := Lib.hid (heap_alloc_new w (.cells #[.int .i64 r.kind, .int .i64 r.cart, .string (bs r.key), .int .i64 r.gen, .int .i64 r.group, .int .i64 r.groups, .int .i64 r.index, .int .i64 r.size, .string (bs r.sum), .slice A r.data.length c] 34))
  have hq := Lib.hid hbb
  clear hbb h 
  replace hok := Lib.hid hok
  cases hg : goodB r with
  | false =>
    have he := Lib.hid (encode_no r A c hok.out hg _ hR.out)
    replace hg := Lib.hid hg
    unfold Rc.agg at he ⊢
    go_enter Try.func8, Try.ntmps8
    go_wp2_with fail
    refine he.out.mono ?_
    rintro e w1 ⟨rfl, hbb⟩
    replace hR := Lib.hid (hR.out.up hbb)
    replace hX := Lib.hid (blk_below hX.out hbb)
    replace hq := Lib.hid (hq.out.trans (hbb.mono hq.out.size))
    clear hbb
    clear he
    go_wp2_with fail
    refine (awake09_any _).mono ?_
    rintro e w7 ⟨rfl, hbb⟩
    replace hR := Lib.hid (hR.out.up hbb)
    replace hX := Lib.hid (blk_below hX.out hbb)
    replace hq := Lib.hid (hq.out.trans (hbb.mono hq.out.size))
    clear hbb
    go_wp2_with fail
    go_ret
    exact ⟨rfl, hq.out⟩
  | true =>
    have htf := turned_fact hg at_ t
    have he := Lib.hid (encode_ok r A c hok.out hg _ hR.out)
    have hel := encB_len hg
    have hdr := Lib.hid (decB_enc hg)
    replace hg := Lib.hid hg
    unfold Rc.agg at he ⊢
    go_enter Try.func8, Try.ntmps8
    go_wp2_with fail
    refine he.out.mono ?_
    rintro e w1 ⟨v1, rfl, ho, hbb⟩
    obtain ⟨A8, c8, rfl, hc8, hm8, hE, -⟩ := ho.form
    obtain ⟨n8, hn8⟩ : ∃ n8, (encB r).length = n8 := ⟨_, rfl⟩
    have hn6 : 6 ≤ n8 := by rw [← hn8]; exact (decB_some hdr.out).1
    rw [hn8] at hel hc8 ⊢
    replace hn8 := Lib.hid hn8
    unfold maxLen at hm8
    replace hE := Lib.hid hE
    clear ho he
    replace hR := Lib.hid (hR.out.up hbb)
    replace hX := Lib.hid (blk_below hX.out hbb)
    replace hq := Lib.hid (hq.out.trans (hbb.mono hq.out.size))
    clear hbb
    clear hX hR
    obtain ⟨x, hx⟩ : ∃ x, encB r = x := ⟨_, rfl⟩
    rw [hx] at hE hn8 hdr
    rw [hx] at htf
    replace hx := Lib.hid hx
    replace htf := Lib.hid htf
    have ho := Lib.hid (OB.empty w1 w1.heap.size (Nat.le_refl _))
    go_wp2_with (at_builtin; refine wpl_append rfl (.tmp 21) (.tmp 22) rfl w1.heap.size (.slice (some ⟨w1.heap.size, 0, none⟩) 0 0) [] rfl ho.out _ A8 c8 x (by rw [hn8.out]; rfl) (hE.out.up ((Below.refl _ w1).alloc (Nat.le_refl _) _)) (by rw [hn8.out]; simp; omega) (by simp) ?_; intro v2 w2 hown2 hg2 _)
    have hb2 : Below w1.heap.size w1 w2 := below_app ho.out ((Below.refl _ w1).alloc (Nat.le_refl _) (.cells #[] 5)) (by simp) hg2
    rw [List.nil_append] at hown2
    obtain ⟨A2, c2, rfl, hc2, hm2, _, _⟩ := hown2.form
    rw [hn8.out] at hown2 hc2 ⊢
    clear ho hg2
    have hl2 := Lib.hid (fun k => (burst_length x at_ t k).trans hn8.out)
    go_loopw [10] (fun i wr => ∃ k : Nat, k ≤ 4 ∧ i = .int .i64 k ∧ OB wr w1.heap.size (.slice A2 n8 c2) (burst x at_ t k) ∧ Below w1.heap.size w1 wr) (fun i _ => 4 - (intOf i).toNat)
    case atStart => exact ⟨0, Nat.zero_le _, rfl, hown2, hb2⟩
    case round =>
      obtain ⟨k, hk, rfl, hown, hbw⟩ := hrel
      clear hown2 hb2
      by_cases hlt : k < 4
      · by_cases hin : at_ + k < n8
        · have hbl := hl2.out k
          obtain ⟨g, rfl, hg1, hg2, hcell, hfr, hst⟩ := hown.store (k := at_ + k) (by omega)
          have hB : Hid (burst x at_ t (k + 1) = (burst x at_ t k).set (at_ + k) ((burst x at_ t k)[at_ + k] ^^^ lo8 (t >>> (8 * k)))) := dif_pos (by omega)
          have hst := Lib.hid (hst ((burst x at_ t k)[at_ + k] ^^^ lo8 (t >>> (8 * k))))
          have hbl := Lib.hid hbl
          generalize (burst x at_ t k)[at_ + k] = z at *
          go_wp2
          go_roundw
          case rel => exact ⟨k + 1, by omega, by go_num, by rw [hB.out]; exact hst.out, hbw.setCell hg1 _⟩
          case measure => simp [intOf]; omega
        · have hB : Hid (burst x at_ t (k + 1) = burst x at_ t k) := dif_neg (by have := hl2.out k; omega)
          have hin' : (n8 : Int) ≤ (at_ : Int) + k := by omega
          go_wp2
          go_roundw
          case rel => exact ⟨k + 1, by omega, by go_num, by rw [hB.out]; exact hown, hbw⟩
          case measure => simp [intOf]; omega
      · obtain rfl : k = 4 := by omega
        have hyl := hl2.out 4
        have hRy := hown.rd.1
        clear hown hl2
        generalize burst x at_ t 4 = y at *
        replace hyl := Lib.hid hyl
        replace hRy := Lib.hid hRy
        have hRx := Lib.hid (hE.out.up hbw)
        replace hq := Lib.hid (hq.out.trans (hbw.mono hq.out.size))
        clear hbw hE
        rcases htf.out with ⟨hyx, hdy⟩ | ⟨hyx, hdy⟩
        · have hd := Lib.hid (decode_some A2 n8 c2 y hyl.out (by omega) hc2 hm2 r hdy _ hRy.out)
          replace hdy := Lib.hid hdy
          have hbq : (x == y) = true := by rw [hyx]; exact beq_self_eq_true x
          replace hyx := Lib.hid hyx
          unfold Rc.agg at hd
          go_wp2_with fail
          refine hd.out.mono ?_
          rintro e w6 ⟨A9, c9, rfl, -, hbb⟩
          replace hRx := Lib.hid (hRx.out.up hbb)
          replace hRy := Lib.hid (hRy.out.up hbb)
          replace hq := Lib.hid (hq.out.trans (hbb.mono hq.out.size))
          clear hbb
          clear hd
          have hbb := (Below.refl _ w6).alloc (Nat.le_refl _) (.cells #[.int .i64 r.kind, .int .i64 r.cart, .string (bs r.key), .int .i64 r.gen, .int .i64 r.group, .int .i64 r.groups, .int .i64 r.index, .int .i64 r.size, .string (bs r.sum), .slice A9 r.data.length c9] 34)
          replace hRx := Lib.hid (hRx.out.up hbb)
          replace hRy := Lib.hid (hRy.out.up hbb)
          replace hq := Lib.hid (hq.out.trans (hbb.mono hq.out.size))
          clear hbb
          go_wp2_with fail
          refine (awake09_any _).mono ?_
          rintro e w8 ⟨rfl, hbb⟩
          replace hRx := Lib.hid (hRx.out.up hbb)
          replace hRy := Lib.hid (hRy.out.up hbb)
          replace hq := Lib.hid (hq.out.trans (hbb.mono hq.out.size))
          clear hbb
          have cv := run_str_at c8 hRx.out hn8.out
          have cv2 := run_str_at c2 hRy.out hyl.out
          go_wp2_with fail
          go_ret
          exact ⟨rfl, hq.out⟩
        · have hd := Lib.hid (decode_none A2 n8 c2 y hyl.out (by omega) hc2 hm2 hdy _ hRy.out)
          replace hdy := Lib.hid hdy
          have hbq : (x == y) = false := by rw [beq_eq_false_iff_ne]; exact hyx
          replace hyx := Lib.hid hyx
          go_wp2_with fail
          refine hd.out.mono ?_
          rintro e w6 ⟨rfl, hbb⟩
          replace hRx := Lib.hid (hRx.out.up hbb)
          replace hRy := Lib.hid (hRy.out.up hbb)
          replace hq := Lib.hid (hq.out.trans (hbb.mono hq.out.size))
          clear hbb
          clear hd
          have hbb := (Below.refl _ w6).alloc (Nat.le_refl _) (.cells #[.int .i64 0, .int .i64 0, .string ⟨#[]⟩, .int .i64 0, .int .i64 0, .int .i64 0, .int .i64 0, .int .i64 0, .string ⟨#[]⟩, .slice none 0 0] 34)
          replace hRx := Lib.hid (hRx.out.up hbb)
          replace hRy := Lib.hid (hRy.out.up hbb)
          replace hq := Lib.hid (hq.out.trans (hbb.mono hq.out.size))
          clear hbb
          go_wp2_with fail
          refine (awake09_any _).mono ?_
          rintro e w8 ⟨rfl, hbb⟩
          replace hRx := Lib.hid (hRx.out.up hbb)
          replace hRy := Lib.hid (hRy.out.up hbb)
          replace hq := Lib.hid (hq.out.trans (hbb.mono hq.out.size))
          clear hbb
          have cv := run_str_at c8 hRx.out hn8.out
          have cv2 := run_str_at c2 hRy.out hyl.out
          go_wp2_with fail
          go_ret
          exact ⟨rfl, hq.out⟩
end Go.Proofs.Yticdkmnjolkacab
