/- The fixed fact of the journal's laws. -/
import Derived.Test.YtgdbbjijneidaaaJr9
namespace Go.Proofs.Ytgdbbjijneidaaa
set_option linter.unusedVariables false
set_option linter.unusedSimpArgs false
open Go Go.RowKit
theorem lead_frame {n : Nt} (h : goodN n = true) (t : List UInt8) : leadN (frameB (encN n) ++ t) = some (n, (frameB (encN n)).length) := by
  have hlen := encN_len ((good_iff n).1 h)
  obtain ⟨X, hX⟩ : ∃ X, encN n = X := ⟨_, rfl⟩
  have hd : decN X = some n := by rw [← hX]; exact decN_enc h
  rw [hX] at hlen ⊢
  have hfl := frameB_len X
  have h4 : ∀ x, (bytes4 x).length = 4 := fun _ => rfl
  have hle : le32 (frameB X ++ t) = X.length := by
    unfold frameB
    rw [List.append_assoc, le32_bytes4, BitVec.toNat_ofNat, Nat.mod_eq_of_lt (by omega)]
  have hdr : ((frameB X ++ t).drop 8).take X.length = X := by
    have e : frameB X = (bytes4 (BitVec.ofNat 32 X.length) ++ bytes4 (crc (bytes4 (BitVec.ofNat 32 X.length) ++ X))) ++ X := by unfold frameB; rw [List.append_assoc]
    have h8 : (bytes4 (BitVec.ofNat 32 X.length) ++ bytes4 (crc (bytes4 (BitVec.ofNat 32 X.length) ++ X))).length = 8 := by rw [List.length_append, h4, h4]
    rw [e, List.append_assoc, List.drop_left' h8, List.take_left' rfl]
  unfold leadN
  rw [List.length_append, hfl, hle, if_neg (by omega), if_neg (by omega), hdr, hd]
  simp only
  rw [if_pos (by rw [List.take_left' hfl])]
theorem cells8 {w : World} {g : Nat} {T : TypeId} {v0 v1 v2 v3 v4 v5 v6 v7 : Value} (hh : w.heap[g]? = some (.cells #[v0, v1, v2, v3, v4, v5, v6, v7] T (0, 0))) :
    w.cell? ⟨g, 0, none⟩ = some v0 ∧ w.cell? ⟨g, 1, none⟩ = some v1 ∧ w.cell? ⟨g, 2, none⟩ = some v2 ∧ w.cell? ⟨g, 3, none⟩ = some v3 ∧ w.cell? ⟨g, 4, none⟩ = some v4 ∧ w.cell? ⟨g, 5, none⟩ = some v5 ∧ w.cell? ⟨g, 6, none⟩ = some v6 ∧ w.cell? ⟨g, 7, none⟩ = some v7 :=
  ⟨blk_cell hh rfl, blk_cell hh rfl, blk_cell hh rfl, blk_cell hh rfl, blk_cell hh rfl, blk_cell hh rfl, blk_cell hh rfl, blk_cell hh rfl⟩
theorem ON.one {q : Ne} {u : Value} {base : Nat} {w : World} (h : ON [q] u base w) : ∃ R rc, u = .slice (some ⟨R, 0, none⟩) 1 rc ∧ R < w.heap.size ∧ ∀ j v, q.cells[j]? = some v → w.cell? ⟨R, j, none⟩ = some v := by
  obtain ⟨A, c, rfl, h1, h2⟩ := h.form
  have hr := Reads.of_own h.row
  obtain ⟨g, cap, hv, _, hlt⟩ := World.ownsRow.form h.row (by simp)
  have hA : A = some ⟨g, 0, none⟩ := by injection hv
  subst hA
  obtain ⟨ad, e, hb, hc⟩ := hr.2 (by simp)
  injection e with e
  subst e
  refine ⟨g, c, rfl, hb, fun j v hj => ?_⟩
  have a := hc j v (by simpa [flatN] using hj)
  rwa [addr0] at a
def n0 : Nt := ⟨4, [], 300, 0, [], [], 0, []⟩
def nz : Nt := ⟨0, [], 0, 0, [], [], 0, []⟩
theorem n0_good : goodN n0 = true := by decide
theorem n0_enc : encN n0 = [4, 0, 172, 2, 0, 0, 0, 0, 0] := by decide +kernel
theorem n0_same : sameN n0 n0 = true := by decide
theorem n0_nz : sameN n0 nz = false := by decide
theorem n0_frame : (frameB [4, 0, 172, 2, 0, 0, 0, 0, 0]).length = 17 := rfl
theorem n0_dec : decN [4, 0, 172, 2, 0, 0, 0, 0, 0] = some n0 := by rw [← n0_enc]; exact decN_enc n0_good
theorem n0_scan : scanN (frameB [4, 0, 172, 2, 0, 0, 0, 0, 0] ++ [9]) = ([n0], 17) := by
  have h := lead_frame n0_good [9]
  rw [n0_enc] at h
  have h2 := scanN_some h
  rw [n0_frame, List.drop_left' n0_frame] at h2
  rw [h2, scanN_none (show leadN [9] = none from rfl)]
  rfl
set_option maxHeartbeats 8000000 in
set_option maxRecDepth 20000 in
theorem awake_any (w : World) :
    Calls Try.prog 16 #[] w fun e w' => e = .returned (.bool true) ∧ Gr w w' := by
  have hb := Gr.alloc w (.cells #[.int .i64 4, .string ⟨#[]⟩, .int .i64 300, .int .i64 0, .slice none 0 0, .string ⟨#[]⟩, .int .i64 0, .slice none 0 0] 25)
  have hm := heap_alloc_new w (.cells #[.int .i64 4, .string ⟨#[]⟩, .int .i64 300, .int .i64 0, .slice none 0 0, .string ⟨#[]⟩, .int .i64 0, .slice none 0 0] 25)
  obtain ⟨N, hN⟩ : ∃ N, w.heap.size = N := ⟨_, rfl⟩
  have hsz : (w.alloc (.cells #[.int .i64 4, .string ⟨#[]⟩, .int .i64 300, .int .i64 0, .slice none 0 0, .string ⟨#[]⟩, .int .i64 0, .slice none 0 0] 25)).heap.size = N + 1 := by rw [← hN]; simp
  rw [hN] at hm
  obtain ⟨w1, hw1⟩ : ∃ w1, w.alloc (.cells #[.int .i64 4, .string ⟨#[]⟩, .int .i64 300, .int .i64 0, .slice none 0 0, .string ⟨#[]⟩, .int .i64 0, .slice none 0 0] 25) = w1 := ⟨_, rfl⟩
  rw [hw1] at hb hm hsz
  have hnv : ∀ W : World, NtV n0 (.agg #[.int .i64 4, .string ⟨#[]⟩, .int .i64 300, .int .i64 0, .slice none 0 0, .string ⟨#[]⟩, .int .i64 0, .slice none 0 0]) W := fun W => ⟨none, 0, none, 0, rfl, Byt.nil_ _, Pls.nil_ _ _ _ (Nat.zero_le _)⟩
  have hen := encode_ok n0 _ w1 (hnv w1) n0_good
  rw [n0_enc, hsz] at hen
  replace hen := Lib.hid hen
  replace hb := Lib.hid hb
  replace hm := Lib.hid hm
  replace hw1 := Lib.hid hw1
  replace hN := Lib.hid hN
  replace hnv := Lib.hid hnv
  go_enter Try.func16, Try.ntmps16
  go_wp2_with fail
  rw [hN.out, hw1.out]
  clear hw1
  refine hen.out.mono ?_
  clear hen
  rintro e w2 ⟨u, rfl, ho, hg2⟩
  replace hb := Lib.hid (hb.out.trans hg2)
  replace hm := Lib.hid (blk_below hm.out hg2)
  obtain ⟨bA, bc, rfl, -⟩ := ho.form
  replace ho : Hid (OB w2 (N + 1) (.slice bA 9 bc) [4, 0, 172, 2, 0, 0, 0, 0, 0]) := Lib.hid ho
  have hs2 : N + 1 ≤ w2.heap.size := by have := hg2.size; omega
  have hoG : ∀ k, (Value.slice bA 9 bc).ownBlock = some k → k < w2.heap.size := fun k hk => (ho.out.lt k hk).2
  clear hg2 hsz
  have hnew := Lib.hid (dnew_any w2)
  go_wp2_with fail
  refine hnew.out.mono ?_
  clear hnew
  rintro e w3 ⟨rfl, hD, hg3⟩
  obtain ⟨G, hG⟩ : ∃ G, w2.heap.size = G := ⟨_, rfl⟩
  rw [hG] at hD hs2 hoG ⊢
  replace hb := Lib.hid (hb.out.trans hg3)
  replace hm := Lib.hid (blk_below hm.out hg3)
  replace ho := OB.gr hg3 ho
  replace hoG := Lib.hid hoG
  have hGs3 : G ≤ w3.heap.size := by have := hg3.size; omega
  replace hG := Lib.hid hG
  clear hg3
  have hop := open_whole G (G + 1) G DS.wipe w3 hD (by rfl)
  have hsw : (scanN DS.wipe.c).1 = [] := rfl
  rw [hsw] at hop
  replace hop := Lib.hid hop
  replace hD := Lib.hid hD
  clear hsw
  go_wp2_with fail
  refine hop.out.mono ?_
  clear hop
  rintro e w4 ⟨J, lu, E, rfl, hE, hon, hJ, hJl, hg4⟩
  obtain rfl : E = [] := List.map_eq_nil_iff.mp hE
  obtain ⟨lA, lc, rfl, -, -⟩ := hon.form
  replace hb := Lib.hid (hb.out.trans hg4)
  replace hm := Lib.hid (blk_below hm.out hg4)
  replace ho := OB.gr hg4 ho
  replace hD := Lib.hid (hD.out.below hg4)
  have hGs4 : G ≤ w4.heap.size := by have := hg4.size; omega
  have hJG : G ≤ J := by omega
  clear hg4 hE hon hJl
  have cv : (convert 22 9 (.slice bA 9 bc)).run Try.prog w4 = .ok (.string (bs [4, 0, 172, 2, 0, 0, 0, 0, 0])) w4 := run_str_at bc ho.out.rd.1 rfl
  have hga := Gr.alloc w4 (.cells #[.int .u8 4, .int .u8 0, .int .u8 172, .int .u8 2, .int .u8 0, .int .u8 0, .int .u8 0, .int .u8 0, .int .u8 0] 5)
  have cv2 : (convert 22 9 (.slice (some ⟨w4.heap.size, 0, none⟩) 9 9)).run Try.prog (w4.alloc (.cells #[.int .u8 4, .int .u8 0, .int .u8 172, .int .u8 2, .int .u8 0, .int .u8 0, .int .u8 0, .int .u8 0, .int .u8 0] 5)) = .ok (.string (bs [4, 0, 172, 2, 0, 0, 0, 0, 0])) (w4.alloc (.cells #[.int .u8 4, .int .u8 0, .int .u8 172, .int .u8 2, .int .u8 0, .int .u8 0, .int .u8 0, .int .u8 0, .int .u8 0] 5)) := run_str_at 9 (Rd.lit w4 #[.int .u8 4, .int .u8 0, .int .u8 172, .int .u8 2, .int .u8 0, .int .u8 0, .int .u8 0, .int .u8 0, .int .u8 0] 5 [4, 0, 172, 2, 0, 0, 0, 0, 0] rfl _ (Nat.lt_succ_self _)) rfl
  replace hb := Lib.hid (hb.out.trans hga)
  replace hm := Lib.hid (blk_below hm.out hga)
  replace ho := OB.gr hga ho
  replace hD := Lib.hid (hD.out.below hga)
  replace hJ : Jn (w4.alloc (.cells #[.int .u8 4, .int .u8 0, .int .u8 172, .int .u8 2, .int .u8 0, .int .u8 0, .int .u8 0, .int .u8 0, .int .u8 0] 5)) J G ((0 : Nat) : Int) := blk_below hJ hga
  have hGs5 : G ≤ (w4.alloc (.cells #[.int .u8 4, .int .u8 0, .int .u8 172, .int .u8 2, .int .u8 0, .int .u8 0, .int .u8 0, .int .u8 0, .int .u8 0] 5)).heap.size := by have := hga.size; omega
  have had := add_ok G _ G J DS.wipe 0 n0 _ _ hD.out hJ hJG (hnv.out _) n0_good rfl (by rw [n0_enc, n0_frame]; decide) (by decide)
  rw [n0_enc, n0_frame] at had
  replace had := Lib.hid had
  replace hJ := Lib.hid hJ
  have x0 := blk_cell (j := 0) (v := .int .i64 4) hm.out rfl
  have x1 := blk_cell (j := 1) (v := .string ⟨#[]⟩) hm.out rfl
  have x2 := blk_cell (j := 2) (v := .int .i64 300) hm.out rfl
  have x3 := blk_cell (j := 3) (v := .int .i64 0) hm.out rfl
  have x4 := blk_cell (j := 4) (v := .slice none 0 0) hm.out rfl
  have x5 := blk_cell (j := 5) (v := .string ⟨#[]⟩) hm.out rfl
  have x6 := blk_cell (j := 6) (v := .int .i64 0) hm.out rfl
  have x7 := blk_cell (j := 7) (v := .slice none 0 0) hm.out rfl
  clear hga hGs4
  go_wp2_with fail
  refine had.out.mono ?_
  clear had cv cv2 x0 x1 x2 x3 x4 x5 x6 x7 hJ hD
  rintro e w5 ⟨rfl, hD, hJ, hl⟩
  replace hm := Lib.hid ((hl.block N (by omega)).trans hm.out)
  replace ho : Hid (OB w5 (N + 1) (.slice bA 9 bc) [4, 0, 172, 2, 0, 0, 0, 0, 0]) := Lib.hid (row_keep ho.out (fun k hk => hl.block k (hoG.out k hk)))
  replace hb : Hid (Gr w w5) := Lib.hid (by have h := hb.out; unfold Gr at *; rw [hN.out] at *; exact h.trans (hl.mono (by omega)))
  have hs5 := hl.size
  clear hl
  have hsj := Lib.hid (jsize_any J G _ w5 hJ)
  go_wp2_with fail
  refine hsj.out.mono ?_
  clear hsj hJ
  rintro e w6 ⟨rfl, rfl⟩
  obtain ⟨Y, hY⟩ : ∃ Y, frameB [4, 0, 172, 2, 0, 0, 0, 0, 0] = Y := ⟨_, rfl⟩
  have hYl : Y.length = 17 := by rw [← hY]; rfl
  have hYs : scanN (Y ++ [9]) = ([n0], 17) := by rw [← hY]; exact n0_scan
  have hDc : Dk w6 G w6.heap.size G ⟨Y, 17, false, 0⟩ := by
    have h := hD
    rw [hY] at h
    have e : (DS.wipe.c ++ Y) = Y := rfl
    rw [e, hYl] at h
    exact h
  replace hY := Lib.hid hY
  clear hD
  have hby := Lib.hid (bytes_any G _ G _ w6 hDc)
  replace hDc := Lib.hid hDc
  go_wp2_with fail
  refine hby.out.mono ?_
  clear hby
  rintro e w7 ⟨v7, rfl, ho7, hg7⟩
  replace hb := Lib.hid (hb.out.trans hg7)
  replace hm := Lib.hid (blk_below hm.out hg7)
  replace ho := OB.gr hg7 ho
  replace hDc := Lib.hid (hDc.out.below hg7)
  have hs7 : N + 1 ≤ w6.heap.size := by have := hGs5; omega
  have hs77 := hg7.size
  obtain ⟨A7, c7, rfl, -⟩ := ho7.form
  (try simp only at ho7)
  rw [hYl] at ho7 ⊢
  have hga := Gr.alloc w7 (.cells #[.int .u8 9] 5)
  have hlit := Rd.lit w7 #[.int .u8 9] 5 [9] rfl _ (Nat.lt_succ_self _)
  replace hb := Lib.hid (hb.out.trans hga)
  replace hm := Lib.hid (blk_below hm.out hga)
  replace ho := OB.gr hga ho
  replace hDc := Lib.hid (hDc.out.below hga)
  replace ho7 := OB.gr hga (Lib.hid ho7)
  have hs8 := hga.size
  obtain ⟨w8, hw8⟩ : ∃ w8, w7.alloc (.cells #[.int .u8 9] 5) = w8 := ⟨_, rfl⟩
  have hw8s : w7.heap.size + 1 ≤ w8.heap.size := by rw [← hw8]; simp
  rw [hw8] at hb hm ho hDc ho7 hlit hs8
  replace hlit := Lib.hid hlit
  replace hw8 := Lib.hid hw8
  have hs6 : w6.heap.size ≤ w8.heap.size := by omega
  clear hga hg7
  go_wp2_with (at_builtin; rw [hw8.out]; go_must (refine wpl_append rfl (.tmp 60) (.tmp 61) rfl w6.heap.size (.slice A7 17 c7) Y rfl ho7.out _ (some ⟨w7.heap.size, 0, none⟩) 1 [9] rfl hlit.out (by rw [hYl]; decide) hs6 ?_); intro v9 w9 ho9 hg9 _)
  have hl9 : Below w6.heap.size w8 w9 := (Below.refl _ w8).grown hg9 hs6 (fun k hk => (ho7.out.lt k hk).1)
  replace hm := Lib.hid ((hl9.block N (by omega)).trans hm.out)
  replace ho : Hid (OB w9 (N + 1) (.slice bA 9 bc) [4, 0, 172, 2, 0, 0, 0, 0, 0]) := Lib.hid (row_keep ho.out (fun k hk => hl9.block k (by have := hoG.out k hk; omega)))
  replace hb : Hid (Gr w w9) := Lib.hid (by have h := hb.out; unfold Gr at *; rw [hN.out] at *; exact h.trans (hl9.mono (by omega)))
  have hs9 := hl9.size
  have hsc := scan_any (Y ++ [9]) v9 _ (by rw [List.length_append, hYl]; decide) w9 ho9
  rw [hYs] at hsc
  replace hsc := Lib.hid hsc
  obtain ⟨A9, m9, c9, rfl⟩ := ho9.shape
  replace hDc := Lib.hid (hDc.out.keep (lo := G) (hi := w6.heap.size) (by omega) (fun k _ hk => hl9.block k hk))
  have hbx9 : w6.heap.size ≤ w9.heap.size := by omega
  clear ho9 hg9 hl9 ho7 hlit hw8 hs8 hw8s hs6 hs77 hs7
  refine hsc.out.mono ?_
  clear hsc
  rintro e w10 ⟨u, E, rfl, hE, hon, hg10⟩
  obtain ⟨q, rfl, hqn⟩ : ∃ q : Ne, E = [q] ∧ q.n = n0 := by
    clear hon
    simp only at hE
    cases E with
    | nil => cases hE
    | cons q E =>
      simp only [List.map_cons, List.cons.injEq, List.map_eq_nil_iff] at hE
      exact ⟨q, by rw [hE.2], hE.1⟩
  obtain ⟨qn, qA, qc, qA2, qc2⟩ := q
  simp only at hqn
  subst hqn
  obtain ⟨R, rc, rfl, hRl, hRc⟩ := hon.one
  have hqv : Hid (NtV n0 (.agg #[.int .i64 4, .string ⟨#[]⟩, .int .i64 300, .int .i64 0, .slice qA 0 qc, .string ⟨#[]⟩, .int .i64 0, .slice qA2 0 qc2]) w10) := Lib.hid ((hon.vs ⟨n0, qA, qc, qA2, qc2⟩ (by simp)).ntv)
  replace hRc := Lib.hid hRc
  replace hb := Lib.hid (hb.out.trans hg10)
  replace hm := Lib.hid (blk_below hm.out hg10)
  replace ho := OB.gr hg10 ho
  replace hDc := Lib.hid (hDc.out.below hg10)
  clear hon hg10 hE
  have hdc := decode_any [4, 0, 172, 2, 0, 0, 0, 0, 0] (.slice bA 9 bc) (by decide) w10 (Byt.ob ho.out)
  rw [n0_dec] at hdc
  replace hdc := Lib.hid hdc
  go_wp2_with fail
  refine hdc.out.mono ?_
  clear hdc
  rintro e w11 ⟨⟨mu, rfl, hmv⟩, hg11⟩
  obtain ⟨mA, mc, mA2, mc2, rfl, hm1, hm2, -, -⟩ := hmv
  have hga := Gr.alloc w11 (.cells #[.int .i64 4, .string ⟨#[]⟩, .int .i64 300, .int .i64 0, .slice mA 0 mc, .string ⟨#[]⟩, .int .i64 0, .slice mA2 0 mc2] 25)
  have hM := heap_alloc_new w11 (.cells #[.int .i64 4, .string ⟨#[]⟩, .int .i64 300, .int .i64 0, .slice mA 0 mc, .string ⟨#[]⟩, .int .i64 0, .slice mA2 0 mc2] 25)
  obtain ⟨M, hMs⟩ : ∃ M, w11.heap.size = M := ⟨_, rfl⟩
  rw [hMs] at hM
  have hg12 := hg11.trans hga
  replace hb := Lib.hid (hb.out.trans hg12)
  replace hm := Lib.hid (blk_below hm.out hg12)
  replace hDc := Lib.hid (hDc.out.below hg12)
  replace hqv := NtV.gr hg12 hqv
  have hmv : Hid (NtV n0 (.agg #[.int .i64 4, .string ⟨#[]⟩, .int .i64 300, .int .i64 0, .slice mA 0 mc, .string ⟨#[]⟩, .int .i64 0, .slice mA2 0 mc2]) (w11.alloc (.cells #[.int .i64 4, .string ⟨#[]⟩, .int .i64 300, .int .i64 0, .slice mA 0 mc, .string ⟨#[]⟩, .int .i64 0, .slice mA2 0 mc2] 25))) := NtV.gr hga (Lib.hid ⟨mA, mc, mA2, mc2, rfl, hm1, hm2⟩)
  have hgc : ∀ w', Gr (w11.alloc (.cells #[.int .i64 4, .string ⟨#[]⟩, .int .i64 300, .int .i64 0, .slice mA 0 mc, .string ⟨#[]⟩, .int .i64 0, .slice mA2 0 mc2] 25)) w' → w'.cell? ⟨R, 0, none⟩ = some (.int .i64 4) ∧ w'.cell? ⟨R, 1, none⟩ = some (.string ⟨#[]⟩) ∧ w'.cell? ⟨R, 2, none⟩ = some (.int .i64 300) ∧ w'.cell? ⟨R, 3, none⟩ = some (.int .i64 0) ∧ w'.cell? ⟨R, 4, none⟩ = some (.slice qA 0 qc) ∧ w'.cell? ⟨R, 5, none⟩ = some (.string ⟨#[]⟩) ∧ w'.cell? ⟨R, 6, none⟩ = some (.int .i64 0) ∧ w'.cell? ⟨R, 7, none⟩ = some (.slice qA2 0 qc2) := fun w' hw' => by
    have hx := hg12.trans hw'
    exact ⟨(cellGr hx (a := ⟨R, 0, none⟩) hRl).trans (hRc.out 0 _ rfl), (cellGr hx (a := ⟨R, 1, none⟩) hRl).trans (hRc.out 1 _ rfl), (cellGr hx (a := ⟨R, 2, none⟩) hRl).trans (hRc.out 2 _ rfl), (cellGr hx (a := ⟨R, 3, none⟩) hRl).trans (hRc.out 3 _ rfl), (cellGr hx (a := ⟨R, 4, none⟩) hRl).trans (hRc.out 4 _ rfl), (cellGr hx (a := ⟨R, 5, none⟩) hRl).trans (hRc.out 5 _ rfl), (cellGr hx (a := ⟨R, 6, none⟩) hRl).trans (hRc.out 6 _ rfl), (cellGr hx (a := ⟨R, 7, none⟩) hRl).trans (hRc.out 7 _ rfl)⟩
  obtain ⟨wb, hwb⟩ : ∃ wb, w11.alloc (.cells #[.int .i64 4, .string ⟨#[]⟩, .int .i64 300, .int .i64 0, .slice mA 0 mc, .string ⟨#[]⟩, .int .i64 0, .slice mA2 0 mc2] 25) = wb := ⟨_, rfl⟩
  rw [hwb] at hM hb hm hDc hqv hmv hgc
  replace hwb := Lib.hid hwb
  replace hMs := Lib.hid hMs
  clear hg11 hga hg12 hm1 hm2 ho hoG hRc
  have hset : n0.agg mA mc mA2 mc2 = .agg #[.int .i64 4, .string ⟨#[]⟩, .int .i64 300, .int .i64 0, .slice mA 0 mc, .string ⟨#[]⟩, .int .i64 0, .slice mA2 0 mc2] := rfl
  rw [hset]
  clear hset
  go_upto_region 9 with (fail)
  rw [hwb.out, hMs.out]
  obtain ⟨wd, hwd⟩ : ∃ wd, wd = wb.drew := ⟨_, rfl⟩
  have hdr : Gr wb wd := by rw [hwd]; exact (Below.refl _ _).drew
  replace hM := Lib.hid (blk_below hM hdr)
  replace hb := Lib.hid (hb.out.trans hdr)
  replace hm := Lib.hid (blk_below hm.out hdr)
  replace hDc := Lib.hid (hDc.out.below hdr)
  replace hqv := NtV.gr hdr hqv
  replace hmv := NtV.gr hdr hmv
  replace hgc := Lib.hid (fun w' (hw' : Gr wd w') => hgc w' (hdr.trans hw'))
  have hcur : Hid (Gr wd wd) := Lib.hid (Gr.refl _)
  have hzv : Hid (∀ W : World, NtV nz (.agg #[.int .i64 0, .string ⟨#[]⟩, .int .i64 0, .int .i64 0, .slice none 0 0, .string ⟨#[]⟩, .int .i64 0, .slice none 0 0]) W) := Lib.hid (fun W => ⟨none, 0, none, 0, rfl, Byt.nil_ _, Pls.nil_ _ _ _ (Nat.zero_le _)⟩)
  clear hdr
  refine wpR_region (Gr) 9999 (by kernel_rfl) ?_
  (rw [← hwd]; replace hwd := Lib.hid hwd)
  refine wpR_take (i := 0) (v := ?_) (Gr.road) (some 71) rfl (by kernel_rfl) (by kernel_rfl) (by kernel_rfl) (by kernel_rfl) (by kernel_rfl) (fun _ _ _ h => h) (by kernel_rfl) (fun w' hw' => ?_) ?_
  rotate_left
  · go_simp; with_reducible rfl
  simp only [Act.put, List.setIfInBounds_toArray, List.set_cons_zero, List.set_cons_succ]
  refine wpR_take (i := 1) (v := ?_) (Gr.road) (some 72) rfl (by kernel_rfl) (by kernel_rfl) (by kernel_rfl) (by kernel_rfl) (by kernel_rfl) (fun _ _ _ h => h) (by kernel_rfl) (fun w' hw' => ?_) ?_
  rotate_left
  · go_simp; with_reducible rfl
  simp only [Act.put, List.setIfInBounds_toArray, List.set_cons_zero, List.set_cons_succ]
  refine wpR_take (i := 2) (v := ?_) (Gr.road) (some 73) rfl (by kernel_rfl) (by kernel_rfl) (by kernel_rfl) (by kernel_rfl) (by kernel_rfl) (fun _ _ _ h => h) (by kernel_rfl) (fun w' hw' => ?_) ?_
  rotate_left
  · go_simp; with_reducible rfl
  simp only [Act.put, List.setIfInBounds_toArray, List.set_cons_zero, List.set_cons_succ]
  refine wpR_take (i := 3) (v := ?_) (Gr.road) (some 74) rfl (by kernel_rfl) (by kernel_rfl) (by kernel_rfl) (by kernel_rfl) (by kernel_rfl) (fun _ _ _ h => h) (by kernel_rfl) (fun w' hw' => ?_) ?_
  rotate_left
  · go_simp; with_reducible rfl
  simp only [Act.put, List.setIfInBounds_toArray, List.set_cons_zero, List.set_cons_succ]
  refine wpR_take (i := 4) (v := ?_) (Gr.road) (some 75) rfl (by kernel_rfl) (by kernel_rfl) (by kernel_rfl) (by kernel_rfl) (by kernel_rfl) (fun _ _ _ h => h) (by kernel_rfl) (fun w' hw' => ?_) ?_
  rotate_left
  · go_simp; with_reducible rfl
  simp only [Act.put, List.setIfInBounds_toArray, List.set_cons_zero, List.set_cons_succ]
  refine wpR_take (i := 5) (v := ?_) (Gr.road) (some 76) rfl (by kernel_rfl) (by kernel_rfl) (by kernel_rfl) (by kernel_rfl) (by kernel_rfl) (fun _ _ _ h => h) (by kernel_rfl) (fun w' hw' => ?_) ?_
  rotate_left
  · go_simp; with_reducible rfl
  simp only [Act.put, List.setIfInBounds_toArray, List.set_cons_zero, List.set_cons_succ]
  refine wpR_take (i := 6) (v := ?_) (Gr.road) (some 77) rfl (by kernel_rfl) (by kernel_rfl) (by kernel_rfl) (by kernel_rfl) (by kernel_rfl) (fun _ _ _ h => h) (by kernel_rfl) (fun w' hw' => ?_) ?_
  rotate_left
  · go_simp; with_reducible rfl
  simp only [Act.put, List.setIfInBounds_toArray, List.set_cons_zero, List.set_cons_succ]
  refine wpR_take (i := 7) (v := ?_) (Gr.road) (some 78) rfl (by kernel_rfl) (by kernel_rfl) (by kernel_rfl) (by kernel_rfl) (by kernel_rfl) (fun _ _ _ h => h) (by kernel_rfl) (fun w' hw' => ?_) ?_
  rotate_left
  · go_simp; with_reducible rfl
  simp only [Act.put, List.setIfInBounds_toArray, List.set_cons_zero, List.set_cons_succ]
  refine wpR_take (i := 8) (v := ?_) (Gr.road) (some 79) rfl (by kernel_rfl) (by kernel_rfl) (by kernel_rfl) (by kernel_rfl) (by kernel_rfl) (fun _ _ _ h => h) (by kernel_rfl) (fun w' hw' => ?_) ?_
  rotate_left
  · go_simp; with_reducible rfl
  simp only [Act.put, List.setIfInBounds_toArray, List.set_cons_zero, List.set_cons_succ]
  refine wpR_take (i := 9) (v := ?_) (Gr.road) (some 80) rfl (by kernel_rfl) (by kernel_rfl) (by kernel_rfl) (by kernel_rfl) (by kernel_rfl) (fun _ _ _ h => h) (by kernel_rfl) (fun w' hw' => ?_) ?_
  rotate_left
  · go_simp; with_reducible rfl
  simp only [Act.put, List.setIfInBounds_toArray, List.set_cons_zero, List.set_cons_succ]
  refine wpR_take (i := 10) (v := ?_) (Gr.road) (some 81) rfl (by kernel_rfl) (by kernel_rfl) (by kernel_rfl) (by kernel_rfl) (by kernel_rfl) (fun _ _ _ h => h) (by kernel_rfl) (fun w' hw' => ?_) ?_
  rotate_left
  · obtain ⟨q0, q1, q2, q3, q4, q5, q6, q7⟩ := hgc.out w' (hcur.out.trans hw'); go_simp; with_reducible rfl
  simp only [Act.put, List.setIfInBounds_toArray, List.set_cons_zero, List.set_cons_succ]
  refine wpR_take (i := 11) (v := ?_) (Gr.road) (some 82) rfl (by kernel_rfl) (by kernel_rfl) (by kernel_rfl) (by kernel_rfl) (by kernel_rfl) (fun _ _ _ h => h) (by kernel_rfl) (fun w' hw' => ?_) ?_
  rotate_left
  · obtain ⟨q0, q1, q2, q3, q4, q5, q6, q7⟩ := cells8 (blk_below hm.out (hcur.out.trans hw')); go_simp; with_reducible rfl
  simp only [Act.put, List.setIfInBounds_toArray, List.set_cons_zero, List.set_cons_succ]
  refine wpR_one 12 rfl (by kernel_rfl) (by kernel_rfl) (fun K hK => ?_)
  go_simp
  refine (same_any n0 n0 _ _ _ hqv.out (hnv.out _)).mono ?_
  rw [n0_same]
  rintro e w12 ⟨rfl, hr12⟩
  refine hK _ _ (fun _ => hr12) ?_
  clear hK K
  replace hcur := Lib.hid (hcur.out.trans hr12)
  replace hqv := NtV.gr hr12 hqv
  replace hmv := NtV.gr hr12 hmv
  replace hDc := Lib.hid (hDc.out.below hr12)
  clear hr12
  try simp only [Act.put, List.setIfInBounds_toArray, List.set_cons_zero, List.set_cons_succ]
  refine wpR_take (i := 13) (v := ?_) (Gr.road) (some 84) rfl (by kernel_rfl) (by kernel_rfl) (by kernel_rfl) (by kernel_rfl) (by kernel_rfl) (fun _ _ _ h => h) (by kernel_rfl) (fun w' hw' => ?_) ?_
  rotate_left
  · go_simp; with_reducible rfl
  simp only [Act.put, List.setIfInBounds_toArray, List.set_cons_zero, List.set_cons_succ]
  refine wpR_take (i := 14) (v := ?_) (Gr.road) (some 85) rfl (by kernel_rfl) (by kernel_rfl) (by kernel_rfl) (by kernel_rfl) (by kernel_rfl) (fun _ _ _ h => h) (by kernel_rfl) (fun w' hw' => ?_) ?_
  rotate_left
  · go_simp; with_reducible rfl
  simp only [Act.put, List.setIfInBounds_toArray, List.set_cons_zero, List.set_cons_succ]
  refine wpR_take (i := 15) (v := ?_) (Gr.road) (some 86) rfl (by kernel_rfl) (by kernel_rfl) (by kernel_rfl) (by kernel_rfl) (by kernel_rfl) (fun _ _ _ h => h) (by kernel_rfl) (fun w' hw' => ?_) ?_
  rotate_left
  · go_simp; with_reducible rfl
  simp only [Act.put, List.setIfInBounds_toArray, List.set_cons_zero, List.set_cons_succ]
  refine wpR_take (i := 16) (v := ?_) (Gr.road) (some 87) rfl (by kernel_rfl) (by kernel_rfl) (by kernel_rfl) (by kernel_rfl) (by kernel_rfl) (fun _ _ _ h => h) (by kernel_rfl) (fun w' hw' => ?_) ?_
  rotate_left
  · go_simp; with_reducible rfl
  simp only [Act.put, List.setIfInBounds_toArray, List.set_cons_zero, List.set_cons_succ]
  refine wpR_take (i := 17) (v := ?_) (Gr.road) (some 88) rfl (by kernel_rfl) (by kernel_rfl) (by kernel_rfl) (by kernel_rfl) (by kernel_rfl) (fun _ _ _ h => h) (by kernel_rfl) (fun w' hw' => ?_) ?_
  rotate_left
  · go_simp; with_reducible rfl
  simp only [Act.put, List.setIfInBounds_toArray, List.set_cons_zero, List.set_cons_succ]
  refine wpR_take (i := 18) (v := ?_) (Gr.road) (some 89) rfl (by kernel_rfl) (by kernel_rfl) (by kernel_rfl) (by kernel_rfl) (by kernel_rfl) (fun _ _ _ h => h) (by kernel_rfl) (fun w' hw' => ?_) ?_
  rotate_left
  · go_simp; with_reducible rfl
  simp only [Act.put, List.setIfInBounds_toArray, List.set_cons_zero, List.set_cons_succ]
  refine wpR_take (i := 19) (v := ?_) (Gr.road) (some 90) rfl (by kernel_rfl) (by kernel_rfl) (by kernel_rfl) (by kernel_rfl) (by kernel_rfl) (fun _ _ _ h => h) (by kernel_rfl) (fun w' hw' => ?_) ?_
  rotate_left
  · obtain ⟨q0, q1, q2, q3, q4, q5, q6, q7⟩ := cells8 (blk_below hM.out (hcur.out.trans hw')); go_simp; with_reducible rfl
  simp only [Act.put, List.setIfInBounds_toArray, List.set_cons_zero, List.set_cons_succ]
  refine wpR_take (i := 20) (v := ?_) (Gr.road) (some 91) rfl (by kernel_rfl) (by kernel_rfl) (by kernel_rfl) (by kernel_rfl) (by kernel_rfl) (fun _ _ _ h => h) (by kernel_rfl) (fun w' hw' => ?_) ?_
  rotate_left
  · obtain ⟨q0, q1, q2, q3, q4, q5, q6, q7⟩ := cells8 (blk_below hm.out (hcur.out.trans hw')); go_simp; with_reducible rfl
  simp only [Act.put, List.setIfInBounds_toArray, List.set_cons_zero, List.set_cons_succ]
  refine wpR_one 21 rfl (by kernel_rfl) (by kernel_rfl) (fun K hK => ?_)
  go_simp
  refine (same_any n0 n0 _ _ _ hmv.out (hnv.out _)).mono ?_
  rw [n0_same]
  rintro e w13 ⟨rfl, hr13⟩
  refine hK _ _ (fun _ => hr13) ?_
  clear hK K
  replace hcur := Lib.hid (hcur.out.trans hr13)
  replace hqv := NtV.gr hr13 hqv
  replace hmv := NtV.gr hr13 hmv
  replace hDc := Lib.hid (hDc.out.below hr13)
  clear hr13
  try simp only [Act.put, List.setIfInBounds_toArray, List.set_cons_zero, List.set_cons_succ]
  refine wpR_take (i := 22) (v := ?_) (Gr.road) (some 93) rfl (by kernel_rfl) (by kernel_rfl) (by kernel_rfl) (by kernel_rfl) (by kernel_rfl) (fun _ _ _ h => h) (by kernel_rfl) (fun w' hw' => ?_) ?_
  rotate_left
  · go_simp; with_reducible rfl
  simp only [Act.put, List.setIfInBounds_toArray, List.set_cons_zero, List.set_cons_succ]
  refine wpR_take (i := 23) (v := ?_) (Gr.road) (some 94) rfl (by kernel_rfl) (by kernel_rfl) (by kernel_rfl) (by kernel_rfl) (by kernel_rfl) (fun _ _ _ h => h) (by kernel_rfl) (fun w' hw' => ?_) ?_
  rotate_left
  · go_simp; with_reducible rfl
  simp only [Act.put, List.setIfInBounds_toArray, List.set_cons_zero, List.set_cons_succ]
  refine wpR_take (i := 24) (v := ?_) (Gr.road) (some 95) rfl (by kernel_rfl) (by kernel_rfl) (by kernel_rfl) (by kernel_rfl) (by kernel_rfl) (fun _ _ _ h => h) (by kernel_rfl) (fun w' hw' => ?_) ?_
  rotate_left
  · obtain ⟨q0, q1, q2, q3, q4, q5, q6, q7⟩ := cells8 (blk_below hM.out (hcur.out.trans hw')); go_simp; with_reducible rfl
  simp only [Act.put, List.setIfInBounds_toArray, List.set_cons_zero, List.set_cons_succ]
  refine wpR_take (i := 25) (v := ?_) (Gr.road) (some 96) rfl (by kernel_rfl) (by kernel_rfl) (by kernel_rfl) (by kernel_rfl) (by kernel_rfl) (fun _ _ _ h => h) (by kernel_rfl) (fun w' hw' => ?_) ?_
  rotate_left
  · go_simp; with_reducible rfl
  simp only [Act.put, List.setIfInBounds_toArray, List.set_cons_zero, List.set_cons_succ]
  refine wpR_one 26 rfl (by kernel_rfl) (by kernel_rfl) (fun K hK => ?_)
  go_simp
  refine (same_any n0 nz _ _ _ hmv.out (hzv.out _)).mono ?_
  rw [n0_nz]
  rintro e w14 ⟨rfl, hr14⟩
  refine hK _ _ (fun _ => hr14) ?_
  clear hK K
  replace hcur := Lib.hid (hcur.out.trans hr14)
  replace hqv := NtV.gr hr14 hqv
  replace hmv := NtV.gr hr14 hmv
  replace hDc := Lib.hid (hDc.out.below hr14)
  clear hr14
  try simp only [Act.put, List.setIfInBounds_toArray, List.set_cons_zero, List.set_cons_succ]
  refine wpR_take (i := 27) (v := ?_) (Gr.road) (some 98) rfl (by kernel_rfl) (by kernel_rfl) (by kernel_rfl) (by kernel_rfl) (by kernel_rfl) (fun _ _ _ h => h) (by kernel_rfl) (fun w' hw' => ?_) ?_
  rotate_left
  · go_simp; with_reducible rfl
  simp only [Act.put, List.setIfInBounds_toArray, List.set_cons_zero, List.set_cons_succ]
  refine wpR_take (i := 28) (v := ?_) (Gr.road) (some 99) rfl (by kernel_rfl) (by kernel_rfl) (by kernel_rfl) (by kernel_rfl) (by kernel_rfl) (fun _ _ _ h => h) (by kernel_rfl) (fun w' hw' => ?_) ?_
  rotate_left
  · go_simp; with_reducible rfl
  simp only [Act.put, List.setIfInBounds_toArray, List.set_cons_zero, List.set_cons_succ]
  refine wpR_take (i := 29) (v := ?_) (Gr.road) (some 100) rfl (by kernel_rfl) (by kernel_rfl) (by kernel_rfl) (by kernel_rfl) (by kernel_rfl) (fun _ _ _ h => h) (by kernel_rfl) (fun w' hw' => ?_) ?_
  rotate_left
  · go_simp; with_reducible rfl
  simp only [Act.put, List.setIfInBounds_toArray, List.set_cons_zero, List.set_cons_succ]
  refine wpR_take (i := 30) (v := ?_) (Gr.road) (some 101) rfl (by kernel_rfl) (by kernel_rfl) (by kernel_rfl) (by kernel_rfl) (by kernel_rfl) (fun _ _ _ h => h) (by kernel_rfl) (fun w' hw' => ?_) ?_
  rotate_left
  · go_simp; with_reducible rfl
  simp only [Act.put, List.setIfInBounds_toArray, List.set_cons_zero, List.set_cons_succ]
  refine wpR_one 31 rfl (by kernel_rfl) (by kernel_rfl) (fun K hK => ?_)
  go_simp
  refine (loose_any G _ G _ _ hDc.out).mono ?_
  rintro e w15 ⟨rfl, kk, hk15⟩
  have hr15 : Gr w14 w15 := by rw [hk15]; exact ⟨rfl, rfl, rfl, Nat.le_refl _, fun _ _ => rfl⟩
  simp only
  refine hK _ _ (fun _ => hr15) ?_
  clear hK K
  replace hcur := Lib.hid (hcur.out.trans hr15)
  rw [hYl]
  clear hr15 hk15
  try simp only [Act.put, List.setIfInBounds_toArray, List.set_cons_zero, List.set_cons_succ]
  refine wpR_take (i := 32) (v := ?_) (Gr.road) (some 103) rfl (by kernel_rfl) (by kernel_rfl) (by kernel_rfl) (by kernel_rfl) (by kernel_rfl) (fun _ _ _ h => h) (by kernel_rfl) (fun w' hw' => ?_) ?_
  rotate_left
  · go_simp; with_reducible rfl
  simp only [Act.put, List.setIfInBounds_toArray, List.set_cons_zero, List.set_cons_succ]
  refine wpR_take (i := 33) (v := ?_) (Gr.road) (some 104) rfl (by kernel_rfl) (by kernel_rfl) (by kernel_rfl) (by kernel_rfl) (by kernel_rfl) (fun _ _ _ h => h) (by kernel_rfl) (fun w' hw' => ?_) ?_
  rotate_left
  · go_simp; with_reducible rfl
  simp only [Act.put, List.setIfInBounds_toArray, List.set_cons_zero, List.set_cons_succ]
  refine wpR_take (i := 34) (v := ?_) (Gr.road) (some 0) rfl (by kernel_rfl) (by kernel_rfl) (by kernel_rfl) (by kernel_rfl) (by kernel_rfl) (fun _ _ _ h => h) (by kernel_rfl) (fun w' hw' => ?_) ?_
  rotate_left
  · go_simp; with_reducible rfl
  simp only [Act.put, List.setIfInBounds_toArray, List.set_cons_zero, List.set_cons_succ]
  refine wpR_done (by kernel_rfl) ?_ _
  replace hb := Lib.hid (hb.out.trans hcur.out)
  go_wp2_with fail
  go_ret
  exact ⟨rfl, hb.out⟩
end Go.Proofs.Ytgdbbjijneidaaa
