/- The laws of cart: CartKeeps. -/
import Derived.Test.YtppclmidnomkjaaCartLaw4
import Derived.Test.YtppclmidnomkjaaStrs
import Derived.Deep.CutBlock
namespace Go.Proofs.Ytppclmidnomkjaa
set_option linter.unusedVariables false
set_option linter.unusedSimpArgs false
open Go Go.RowKit
theorem ck0 : (⟨[], (min (max 100 0) 1024 : Int).toNat, false⟩ : CS) = ⟨[], 100, false⟩ := rfl
def kz (L : List (List UInt8)) (Z : List Bool) : CS := ⟨L.zip Z, 100, false⟩
def k0 (L : List (List UInt8)) : CS := ⟨L.map (fun l => (l, false)), 100, false⟩
theorem k0_kz (L : List (List UInt8)) : k0 L = kz L (List.replicate L.length false) := by
  unfold k0 kz
  congr 1
  induction L with
  | nil => rfl
  | cons l L ih => simp [List.replicate_succ, ih]
theorem k0_app (L : List (List UInt8)) (l : List UInt8) (h : L.length < 100) : ((l.length < 1 ∨ 256 < l.length) ∧ (k0 L).append l = (0, 1, k0 L)) ∨ ((1 ≤ l.length ∧ l.length ≤ 256) ∧ (k0 L).append l = ((L.length : Int), 0, k0 (L ++ [l]))) := by
  rcases app_cases (k0 L) l rfl (by show (L.map _).length < 100; rw [List.length_map]; exact h) with h1 | ⟨h1, h2⟩
  · exact .inl h1
  · refine .inr ⟨h1, h2.trans ?_⟩
    unfold k0
    simp
theorem zip_get (L : List (List UInt8)) (Z : List Bool) {i : Nat} {l : List UInt8} {z : Bool} (h1 : L[i]? = some l) (h2 : Z[i]? = some z) : (L.zip Z)[i]? = some (l, z) := by
  rw [List.getElem?_zip_eq_some]; exact ⟨h1, h2⟩
theorem zip_set (L : List (List UInt8)) (Z : List Bool) {i : Nat} {l : List UInt8} (h1 : L[i]? = some l) (b : Bool) : (L.zip Z).set i (l, b) = L.zip (Z.set i b) := by
  induction L generalizing Z i with
  | nil => simp at h1
  | cons a L ih =>
    cases Z with
    | nil => simp
    | cons z Z =>
      cases i with
      | zero => simp at h1; subst h1; simp
      | succ i => simp at h1; simp [ih Z h1]
theorem kz_rot (L : List (List UInt8)) (Z : List Bool) {i : Nat} {l : List UInt8} {z : Bool} (h1 : L[i]? = some l) (h2 : Z[i]? = some z) : (kz L Z).rot (i : Int) = (!z, kz L (Z.set i true)) := by
  have hg := zip_get L Z h1 h2
  have hlt := (List.getElem?_eq_some_iff.1 hg).1
  unfold CS.rot
  have hd : (kz L Z).recs.getD ((i : Int).toNat) ([], false) = (l, z) := by rw [Int.toNat_natCast]; exact getD_some hg
  rw [hd, if_neg (by show ¬ (false = true ∨ (i : Int) < 0 ∨ ((L.zip Z).length : Int) ≤ i); simp only [Bool.false_eq_true, false_or]; omega)]
  cases z with
  | true =>
    rw [if_pos rfl]
    have : Z.set i true = Z := by
      obtain ⟨h, e⟩ := List.getElem?_eq_some_iff.1 h2
      rw [← e]; exact List.set_getElem_self h
    rw [this]; rfl
  | false =>
    rw [if_neg (by show ¬ (false = true); decide), Int.toNat_natCast]
    show (true, _) = (true, _)
    congr 1
    show CS.mk ((L.zip Z).set i (l, true)) 100 false = _
    rw [zip_set L Z h1]
    rfl
theorem kz_read (L : List (List UInt8)) (Z : List Bool) {i : Nat} {l : List UInt8} {z : Bool} (h1 : L[i]? = some l) (h2 : Z[i]? = some z) : (kz L Z).read (i : Int) = if z = true then ([], 10) else (l, 0) := by
  have hg := zip_get L Z h1 h2
  have hlt := (List.getElem?_eq_some_iff.1 hg).1
  unfold CS.read
  have hd : (kz L Z).recs.getD ((i : Int).toNat) ([], false) = (l, z) := by rw [Int.toNat_natCast]; exact getD_some hg
  rw [hd, if_neg (by show ¬ (false = true); decide), if_neg (by show ¬ ((i : Int) < 0 ∨ ((L.zip Z).length : Int) ≤ i); omega)]
theorem tmod_nat (x : UInt8) (n : Nat) : (U x).tmod (n : Int) = ((x.toNat % n : Nat) : Int) := by
  rw [Int.tmod_eq_emod_of_nonneg (U_lo x)]; unfold U; omega
set_option maxHeartbeats 4000000 in
set_option maxRecDepth 10000 in
theorem cartKeeps_any (A : Option Addr) (n c : Nat) (f : Nat → PartR) (hnc : n ≤ c) (hc : c ≤ maxLen) (A2 : Option Addr) (n2 c2 : Nat) (b : List UInt8) (hn2 : b.length = n2) (hnc2 : n2 ≤ c2) (hc2 : c2 ≤ maxLen) (w : World) (hp : Parts w w.heap.size A n f) (hr2 : Rd w w.heap.size A2 b) :
    Calls Try.prog 4 #[.slice A n c, .slice A2 n2 c2] w fun e w' => e = .returned (.bool true) ∧ Below w.heap.size w w' := by
  replace hp := Lib.hid hp
  replace hr2 := Lib.hid hr2
  replace hn2 := Lib.hid hn2
  unfold maxLen at hc hc2
  go_enter Try.func4, Try.ntmps4
  go_wp2_with fail
  refine (cnew_any 100 (by unfold I64; decide) w).mono ?_
  rw [ck0]
  rintro e w2 ⟨rfl, hd2, hb2⟩
  obtain ⟨lo, hlo⟩ : ∃ lo, lo = w.heap.size := ⟨_, rfl⟩
  rw [← hlo] at hd2
  rw [← hlo]
  have hlw : w.heap.size ≤ lo := by omega
  have hl2 : lo ≤ w2.heap.size := hd2.lw
  have hs2 : Hid (SRow (w2.alloc (.cells #[] 9)) lo (.slice (some ⟨w2.heap.size, 0, none⟩) 0 0) []) := Lib.hid (row_empty w2 lo _ 1 hl2)
  have hd2' : Hid (Ct (w2.alloc (.cells #[] 9)) lo (w2.alloc (.cells #[] 9)).heap.size lo (k0 [])) := Lib.hid ((hd2.below ((Below.refl _ _).alloc (Nat.le_refl _) _)).more (by simp) (Nat.le_refl _))
  have hb2' := Lib.hid (hb2.alloc hb2.size (.cells #[] 9))
  replace hlo := Lib.hid hlo
  clear hd2 hb2
  go_upto_block 0 with (fail)
  go_cut [6] (fun kv wx => ∃ (L : List (List UInt8)) (A6 : Option Addr) (c6 : Nat), kv = .slice A6 L.length c6 ∧ L.length ≤ 60 ∧ Hid (SRow wx lo (.slice A6 L.length c6) L) ∧ Hid (Ct wx lo wx.heap.size lo (k0 L)) ∧ Hid (Below w.heap.size w wx))
  case first =>
   go_wp2_with fail
   go_loopw [6, 7] (fun kv i wr => ∃ (k : Nat) (L : List (List UInt8)) (A6 : Option Addr) (c6 : Nat), i = .int .i64 k ∧ kv = .slice A6 L.length c6 ∧ k ≤ n ∧ k ≤ 60 ∧ L.length ≤ k ∧ Hid (SRow wr lo (.slice A6 L.length c6) L) ∧ Hid (Ct wr lo wr.heap.size lo (k0 L)) ∧ Hid (Below w.heap.size w wr)) (fun _ i _ => n - (intOf i).toNat)
   case atStart => exact ⟨0, [], _, _, rfl, rfl, Nat.zero_le _, by decide, Nat.le_refl _, hs2, hd2', hb2'⟩
   case round =>
     obtain ⟨k, L, A6, c6, rfl, rfl, hk, hk60, hLk, hs3, hd3, hb3⟩ := hrel
     clear hs2 hd2' hb2'
     obtain ⟨N, hN⟩ : ∃ N, L.length = N := ⟨_, rfl⟩
     obtain ⟨hsf2, hsf3⟩ := row_caps hs3.out
     rw [hN] at hsf2
     rw [hN] at hLk hs3 ⊢
     replace hN := Lib.hid hN
     by_cases hlt : k < n ∧ k < 60
     · obtain ⟨h1, h2⟩ := hlt
       obtain ⟨bb, o, rfl, hbB, hat⟩ := hp.out.1 (by omega)
       have c0 := (hat.below hbB hb3.out) k h1
       obtain ⟨hlc, hcm, hrd⟩ := hp.out.2 k h1
       have hrd3 := Lib.hid ((hrd.below hb3.out).more hb3.out.size)
       replace hat := Lib.hid hat
       replace hrd := Lib.hid hrd
       have hfk : Hid (∀ W, Below w.heap.size w W → W.cell? ⟨bb, o + k, none⟩ = some (.slice (f k).A (f k).l.length (f k).c)) := Lib.hid (fun W hW => (hat.out.below hbB hW) k h1)
       obtain ⟨q, hq⟩ : ∃ q, f k = q := ⟨_, rfl⟩
       rw [hq] at c0 hlc hcm hrd3 hfk hrd
       obtain ⟨A3, c3, l⟩ := q
       clear hq
       try simp only at c0 hlc hcm hrd3 hfk hrd
       obtain ⟨m, hm⟩ : ∃ m, l.length = m := ⟨_, rfl⟩
       rw [hm] at c0 hlc hfk
       go_wp2_with fail
       refine (cappend_any lo _ lo (k0 L) A3 m c3 l hm (by omega) _ hd3.out hrd3.out).mono ?_
       have hcas := k0_app L l (by rw [hN.out]; omega)
       rw [hm] at hcas
       replace hm := Lib.hid hm
       rcases hcas with ⟨g1, g2⟩ | ⟨g1, g2⟩
       · rw [g2]
         rintro e w4 ⟨rfl, hd4, hch⟩
         have hb4 := Lib.hid (hch.from_ hb3.out hlw hd3.out.lw)
         have hs4 : Hid (SRow w4 lo (.slice A6 N c6) L) := Lib.hid (row_tchg hs3.out hch (by decide))
         have c4 := hfk.out w4 hb4.out
         replace hd4 := Lib.hid hd4
         clear hch hd3 hb3 hs3 hrd3 g2 c0
         by_cases g3 : m < 1
         · clear g1
           go_wp2_with fail
           go_roundw
           case rel => exact ⟨k + 1, L, A6, c6, by go_num, by rw [hN.out], by omega, by omega, by rw [hN.out]; omega, by rw [hN.out]; exact hs4, hd4, hb4⟩
           case measure => simp [intOf]; omega
         · have g4 : 256 < m := by omega
           clear g1
           go_wp2_with fail
           go_roundw
           case rel => exact ⟨k + 1, L, A6, c6, by go_num, by rw [hN.out], by omega, by omega, by rw [hN.out]; omega, by rw [hN.out]; exact hs4, hd4, hb4⟩
           case measure => simp [intOf]; omega
       · rw [g2, hN.out]
         rintro e w4 ⟨rfl, hd4, hch⟩
         have hb4 := Lib.hid (hch.from_ hb3.out hlw hd3.out.lw)
         have hs4 : Hid (SRow w4 lo (.slice A6 N c6) L) := Lib.hid (row_tchg hs3.out hch (by decide))
         have c4 := hfk.out w4 hb4.out
         have hcv := run_str_at (n := m) c3 (hrd.out.below hb4.out) hm.out
         have hl4 : lo ≤ w4.heap.size := Nat.le_trans hd3.out.lw hch.size
         replace hd4 := Lib.hid hd4
         clear hch hd3 hb3 hs3 hrd3 g1 g2 c0
         have hl7 : Hid ((L ++ [l]).length = N + 1) := Lib.hid (by rw [List.length_append, hN.out]; rfl)
         go_wp2_with (at_builtin; refine wpl_append_strs rfl (.tmp 53) (.tmp 59) rfl lo (.slice A6 N c6) L rfl (hs4.out.alloc _) (w4.heap.size + 1) (some ⟨w4.heap.size, 0, none⟩) 1 [l] 1 rfl rfl (Reads.lit1 w4 _ _ _ (Nat.lt_succ_self _)) (by rw [hN.out]; omega) (by simp; omega) ?_; intro v5 w5 hs5 hg5; obtain ⟨A7, c7, rfl, hn7, hc7⟩ := row_form hs5; rw [hl7.out] at hs5 hn7 ⊢; have ht5 : TChg lo [9] w4 w5 := (TChg.of_alloc w4 _).trans (TChg.of_row (hs4.out.alloc _) hg5 (by simp)); have hd5 := Lib.hid ((hd4.out.tchg ht5 (by decide) (by decide) (by decide)).more ht5.size (Nat.le_refl _)); have hb5 := Lib.hid (ht5.from_ hb4.out hlw hl4); replace hs5 := Lib.hid hs5; clear hg5 ht5)
         go_roundw
         case rel => exact ⟨k + 1, L ++ [l], A7, c7, by go_num, by rw [hl7.out], by omega, by omega, by rw [hl7.out]; omega, by rw [hl7.out]; exact hs5, hd5, hb5⟩
         case measure => simp [intOf]; omega
     · have hN60 : N ≤ 60 := by omega
       by_cases h1 : k < n
       · have h2 : ¬ k < 60 := by omega
         clear hlt
         go_wp2_with fail
         go_meet
         exact ⟨L, A6, c6, by rw [hN.out], by rw [hN.out]; omega, by rw [hN.out]; exact hs3, hd3, hb3⟩
       · clear hlt
         go_wp2_with fail
         go_meet
         exact ⟨L, A6, c6, by rw [hN.out], by rw [hN.out]; omega, by rw [hN.out]; exact hs3, hd3, hb3⟩
  case rest =>
    obtain ⟨L, A6, c6, rfl, hL60, hs3, hd3, hb3⟩ := hcut
    clear hs2 hd2' hb2'
    obtain ⟨N, hN⟩ : ∃ N, L.length = N := ⟨_, rfl⟩
    obtain ⟨hsf2, hsf3⟩ := row_caps hs3.out
    rw [hN] at hsf2 hL60 hs3 ⊢
    have hx : Hid (k0 L = kz L (List.replicate N false)) := Lib.hid (by rw [k0_kz, hN])
    replace hN := Lib.hid hN
    rw [hx.out] at hd3
    clear hx
    rename World => wr
    have hl3 := hd3.out.lw
    go_upto_block 2 with (refine wpl_make_bools rfl (.tmp 67) (.tmp 67) rfl lo N rfl rfl (by omega) hl3 ?_; intro w4 hz4 hbb4; have hd4 := Lib.hid ((hd3.out.below hbb4).more hbb4.size (Nat.le_refl _)); have hs4 : Hid (SRow w4 lo (.slice A6 N c6) L) := Lib.hid (row_below hs3.out hbb4); have hb4 := Lib.hid (hb3.out.trans (hbb4.mono hb3.out.size)); replace hz4 := Lib.hid hz4; clear hbb4 hd3 hs3 hb3)
    obtain ⟨gb, hgb⟩ : ∃ gb, gb = wr.heap.size := ⟨_, rfl⟩
    rw [← hgb] at hz4 ⊢
    clear hgb
    obtain ⟨hi4, hhi4⟩ : ∃ hi4, hi4 = w4.heap.size := ⟨_, rfl⟩
    have hd4' : Hid (Ct w4 lo hi4 lo (kz L (List.replicate N false))) := Lib.hid (by rw [hhi4]; exact hd4.out)
    clear hd4 hhi4
    go_cut [11] (fun i wx => ∃ Z : List Bool, Hid (Z.length = N) ∧ Hid (SRow wx lo (.slice A6 N c6) L) ∧ Hid (BRow wx lo (.slice (some ⟨gb, 0, none⟩) N N) Z) ∧ Hid (Ct wx lo hi4 lo (kz L Z)) ∧ Hid (Below w.heap.size w wx))
    case first =>
     go_wp2_with fail
     go_loopw [11] (fun i wr => ∃ (k : Nat) (Z : List Bool), i = .int .i64 k ∧ k ≤ n2 ∧ k ≤ 60 ∧ Hid (Z.length = N) ∧ Hid (SRow wr lo (.slice A6 N c6) L) ∧ Hid (BRow wr lo (.slice (some ⟨gb, 0, none⟩) N N) Z) ∧ Hid (Ct wr lo hi4 lo (kz L Z)) ∧ Hid (Below w.heap.size w wr)) (fun i _ => n2 - (intOf i).toNat)
     case atStart => exact ⟨0, List.replicate N false, rfl, Nat.zero_le _, by decide, Lib.hid (by simp), hs4, hz4, hd4', hb4⟩
     case round =>
       obtain ⟨j, Z, rfl, hj, hj60, hZ, hs5, hz5, hd5, hb5⟩ := hrel
       clear hs4 hz4 hd4' hb4
       rename World => wq
       by_cases hlt2 : j < n2 ∧ j < 60 ∧ 0 < N
       · obtain ⟨g1, g2, g3⟩ := hlt2
         obtain ⟨x, hx⟩ : ∃ x, b[j]? = some x := ⟨_, List.getElem?_eq_getElem (by rw [hn2.out]; exact g1)⟩
         obtain ⟨ad, rfl, -, cb⟩ := (hr2.out.below hb5.out).get hx
         obtain ⟨aa, haa⟩ : ∃ aa : Nat, aa = x.toNat % N := ⟨_, rfl⟩
         have haN : aa < N := by rw [haa]; exact Nat.mod_lt _ g3
         have hmod : (U x).tmod (N : Int) = (aa : Int) := by rw [tmod_nat, haa]
         have haI : Hid (I64 (aa : Int)) := Lib.hid (by unfold I64; omega)
         obtain ⟨l, hl⟩ : ∃ l, L[aa]? = some l := ⟨_, List.getElem?_eq_getElem (by rw [hN.out]; exact haN)⟩
         obtain ⟨z, hz⟩ : ∃ z, Z[aa]? = some z := ⟨_, List.getElem?_eq_getElem (by rw [hZ.out]; exact haN)⟩
         have hrot := Lib.hid (kz_rot L Z hl hz)
         obtain ⟨gb', hgbe, -, hgb2, ⟨csb, hcsb⟩, cz, -, -, -⟩ := hz5.out.at_ hz
         injection hgbe with hgbe
         injection hgbe with hgbe
         subst hgbe
         replace hcsb := Lib.hid hcsb
         have hgbn : Hid (¬ (lo ≤ gb ∧ ∃ cs T, wq.drew.heap[gb]? = some (.cells cs T (0, 0)) ∧ T ∈ [75, 81])) := Lib.hid (fun ⟨_, cs, T, e, hT⟩ => by
           rw [show wq.drew.heap[gb]? = wq.heap[gb]? from rfl, hcsb.out] at e
           injection e with e
           injection e with _ e _
           subst e
           revert hT
           decide)
         have hgbs : Hid (gb < wq.drew.heap.size) := Lib.hid hgb2
         have hdD : Hid (Ct wq.drew lo hi4 lo (kz L Z)) := Lib.hid hd5.out
         have hsD : Hid (SRow wq.drew lo (.slice A6 N c6) L) := Lib.hid hs5.out
         have hzD : Hid (BRow wq.drew lo (.slice (some ⟨gb, 0, none⟩) N N) Z) := Lib.hid hz5.out
         have hbD : Hid (Below w.heap.size w wq.drew) := Lib.hid hb5.out.drew
         replace hl := Lib.hid hl
         have hz' := Lib.hid hz
         have hZs := Lib.hid (show (Z.set aa true).length = N by rw [List.length_set]; exact hZ.out)
         clear hx haa hz hs5 hz5 hd5 hb5
         cases z with
         | true =>
           go_wp2_with fail
           refine wpR_region (TChg lo [75, 81]) 9999 (by kernel_rfl) ?_
           refine wpR_take (i := 0) (v := ?_) (TChg.road _ _) (some 92) rfl (by kernel_rfl) (by kernel_rfl) (by kernel_rfl) (by kernel_rfl) (by kernel_rfl) (fun _ _ _ h => h) (by kernel_rfl) (fun w' hw' => ?_) ?_
           rotate_left
           · go_simp; with_reducible rfl
           simp only [Act.put, List.setIfInBounds_toArray, List.set_cons_zero, List.set_cons_succ]
           refine wpR_take (i := 1) (v := ?_) (TChg.road _ _) (some 93) rfl (by kernel_rfl) (by kernel_rfl) (by kernel_rfl) (by kernel_rfl) (by kernel_rfl) (fun _ _ _ h => h) (by kernel_rfl) (fun w' hw' => ?_) ?_
           rotate_left
           · go_simp; with_reducible rfl
           simp only [Act.put, List.setIfInBounds_toArray, List.set_cons_zero, List.set_cons_succ]
           refine wpR_take (i := 3) (v := ?_) (TChg.road _ _) (some 95) rfl (by kernel_rfl) (by kernel_rfl) (by kernel_rfl) (by kernel_rfl) (by kernel_rfl) (fun _ _ _ h => h) (by kernel_rfl) (fun w' hw' => ?_) ?_
           rotate_left
           · go_simp; with_reducible rfl
           simp only [Act.put, List.setIfInBounds_toArray, List.set_cons_zero, List.set_cons_succ]
           refine wpR_take (i := 4) (v := ?_) (TChg.road _ _) (some 96) rfl (by kernel_rfl) (by kernel_rfl) (by kernel_rfl) (by kernel_rfl) (by kernel_rfl) (fun _ _ _ h => h) (by kernel_rfl) (fun w' hw' => ?_) ?_
           rotate_left
           · go_simp; with_reducible rfl
           simp only [Act.put, List.setIfInBounds_toArray, List.set_cons_zero, List.set_cons_succ]
           refine wpR_take (i := 5) (v := ?_) (TChg.road _ _) (some 97) rfl (by kernel_rfl) (by kernel_rfl) (by kernel_rfl) (by kernel_rfl) (by kernel_rfl) (fun _ _ _ h => h) (by kernel_rfl) (fun w' hw' => ?_) ?_
           rotate_left
           · go_simp; with_reducible rfl
           simp only [Act.put, List.setIfInBounds_toArray, List.set_cons_zero, List.set_cons_succ]
           refine wpR_take (i := 6) (v := ?_) (TChg.road _ _) (some 98) rfl (by kernel_rfl) (by kernel_rfl) (by kernel_rfl) (by kernel_rfl) (by kernel_rfl) (fun _ _ _ h => h) (by kernel_rfl) (fun w' hw' => ?_) ?_
           rotate_left
           · have q := (World.cell?_of_block (a := ⟨gb, aa, none⟩) (hw'.2.2.2.2 gb hgbs.out hgbn.out)).trans cz; go_simp; with_reducible rfl
           simp only [Act.put, List.setIfInBounds_toArray, List.set_cons_zero, List.set_cons_succ]
           refine wpR_one 2 rfl (by kernel_rfl) (by kernel_rfl) (fun K hK => ?_)
           go_simp
           refine (crot_any lo _ lo _ (aa : Int) haI.out _ hdD.out).mono ?_
           rw [hrot.out]
           rintro e w8 ⟨rfl, hd8, hch⟩
           refine hK _ _ (fun _ => hch) ?_
           clear hK K
           have hc8 := (World.cell?_of_block (a := ⟨gb, aa, none⟩) (hch.2.2.2.2 gb hgbs.out hgbn.out)).trans cz
           have hs8 := Lib.hid (row_tchg hsD.out hch (by decide))
           have hz8 := Lib.hid (row_tchg hzD.out hch (by decide))
           have hb8 := Lib.hid (hch.from_ hbD.out hlw hdD.out.lw)
           replace hd8 := Lib.hid hd8
           clear hch
           try simp only [Act.put, List.setIfInBounds_toArray, List.set_cons_zero, List.set_cons_succ]
           refine wpR_take (i := 7) (v := ?_) (TChg.road _ _) (some 99) rfl (by kernel_rfl) (by kernel_rfl) (by kernel_rfl) (by kernel_rfl) (by kernel_rfl) (fun _ _ _ h => h) (by kernel_rfl) (fun w' hw' => ?_) ?_
           rotate_left
           · go_simp; with_reducible rfl
           simp only [Act.put, List.setIfInBounds_toArray, List.set_cons_zero, List.set_cons_succ]
           refine wpR_done (by kernel_rfl) ?_ _
           clear hc8
           obtain ⟨_, hgbe, hg3, hg4, hcs8, cz8, fz8, hst8, -⟩ := BRow.at_ hz8.out hz'.out
           injection hgbe with hgbe
           injection hgbe with hgbe
           subst hgbe
           obtain ⟨cs8, hcs8⟩ := hcs8
           have hs9 := Lib.hid (row_set_other hs8.out gb aa (.bool true) (row_ne hs8.out hcs8 (by decide)))
           have hT9 : TChg lo [4] w8 (w8.setCell ⟨gb, aa, none⟩ (.bool true)) := TChg.of_set hcs8 (by simp) hg3 aa _
           have hd9 := Lib.hid (hd8.out.tchg hT9 (by decide) (by decide) (by decide))
           have hb9 := Lib.hid (hT9.from_ hb8.out hlw (by omega))
           have hst9 := Lib.hid (hst8 true)
           clear hst8 hcs8 hT9 hs8 hz8 hd8 hb8
           go_wp2_with fail
           go_roundw
           case rel => exact ⟨j + 1, Z.set aa true, by go_num, by omega, by omega, hZs, hs9, hst9, hd9, hb9⟩
           case measure => simp [intOf]; omega
         | false =>
           go_wp2_with fail
           refine wpR_region (TChg lo [75, 81]) 9999 (by kernel_rfl) ?_
           refine wpR_take (i := 0) (v := ?_) (TChg.road _ _) (some 92) rfl (by kernel_rfl) (by kernel_rfl) (by kernel_rfl) (by kernel_rfl) (by kernel_rfl) (fun _ _ _ h => h) (by kernel_rfl) (fun w' hw' => ?_) ?_
           rotate_left
           · go_simp; with_reducible rfl
           simp only [Act.put, List.setIfInBounds_toArray, List.set_cons_zero, List.set_cons_succ]
           refine wpR_take (i := 1) (v := ?_) (TChg.road _ _) (some 93) rfl (by kernel_rfl) (by kernel_rfl) (by kernel_rfl) (by kernel_rfl) (by kernel_rfl) (fun _ _ _ h => h) (by kernel_rfl) (fun w' hw' => ?_) ?_
           rotate_left
           · go_simp; with_reducible rfl
           simp only [Act.put, List.setIfInBounds_toArray, List.set_cons_zero, List.set_cons_succ]
           refine wpR_take (i := 3) (v := ?_) (TChg.road _ _) (some 95) rfl (by kernel_rfl) (by kernel_rfl) (by kernel_rfl) (by kernel_rfl) (by kernel_rfl) (fun _ _ _ h => h) (by kernel_rfl) (fun w' hw' => ?_) ?_
           rotate_left
           · go_simp; with_reducible rfl
           simp only [Act.put, List.setIfInBounds_toArray, List.set_cons_zero, List.set_cons_succ]
           refine wpR_take (i := 4) (v := ?_) (TChg.road _ _) (some 96) rfl (by kernel_rfl) (by kernel_rfl) (by kernel_rfl) (by kernel_rfl) (by kernel_rfl) (fun _ _ _ h => h) (by kernel_rfl) (fun w' hw' => ?_) ?_
           rotate_left
           · go_simp; with_reducible rfl
           simp only [Act.put, List.setIfInBounds_toArray, List.set_cons_zero, List.set_cons_succ]
           refine wpR_take (i := 5) (v := ?_) (TChg.road _ _) (some 97) rfl (by kernel_rfl) (by kernel_rfl) (by kernel_rfl) (by kernel_rfl) (by kernel_rfl) (fun _ _ _ h => h) (by kernel_rfl) (fun w' hw' => ?_) ?_
           rotate_left
           · go_simp; with_reducible rfl
           simp only [Act.put, List.setIfInBounds_toArray, List.set_cons_zero, List.set_cons_succ]
           refine wpR_take (i := 6) (v := ?_) (TChg.road _ _) (some 98) rfl (by kernel_rfl) (by kernel_rfl) (by kernel_rfl) (by kernel_rfl) (by kernel_rfl) (fun _ _ _ h => h) (by kernel_rfl) (fun w' hw' => ?_) ?_
           rotate_left
           · have q := (World.cell?_of_block (a := ⟨gb, aa, none⟩) (hw'.2.2.2.2 gb hgbs.out hgbn.out)).trans cz; go_simp; with_reducible rfl
           simp only [Act.put, List.setIfInBounds_toArray, List.set_cons_zero, List.set_cons_succ]
           refine wpR_one 2 rfl (by kernel_rfl) (by kernel_rfl) (fun K hK => ?_)
           go_simp
           refine (crot_any lo _ lo _ (aa : Int) haI.out _ hdD.out).mono ?_
           rw [hrot.out]
           rintro e w8 ⟨rfl, hd8, hch⟩
           refine hK _ _ (fun _ => hch) ?_
           clear hK K
           have hc8 := (World.cell?_of_block (a := ⟨gb, aa, none⟩) (hch.2.2.2.2 gb hgbs.out hgbn.out)).trans cz
           have hs8 := Lib.hid (row_tchg hsD.out hch (by decide))
           have hz8 := Lib.hid (row_tchg hzD.out hch (by decide))
           have hb8 := Lib.hid (hch.from_ hbD.out hlw hdD.out.lw)
           replace hd8 := Lib.hid hd8
           clear hch
           try simp only [Act.put, List.setIfInBounds_toArray, List.set_cons_zero, List.set_cons_succ]
           refine wpR_take (i := 7) (v := ?_) (TChg.road _ _) (some 99) rfl (by kernel_rfl) (by kernel_rfl) (by kernel_rfl) (by kernel_rfl) (by kernel_rfl) (fun _ _ _ h => h) (by kernel_rfl) (fun w' hw' => ?_) ?_
           rotate_left
           · go_simp; with_reducible rfl
           simp only [Act.put, List.setIfInBounds_toArray, List.set_cons_zero, List.set_cons_succ]
           refine wpR_done (by kernel_rfl) ?_ _
           clear hc8
           obtain ⟨_, hgbe, hg3, hg4, hcs8, cz8, fz8, hst8, -⟩ := BRow.at_ hz8.out hz'.out
           injection hgbe with hgbe
           injection hgbe with hgbe
           subst hgbe
           obtain ⟨cs8, hcs8⟩ := hcs8
           have hs9 := Lib.hid (row_set_other hs8.out gb aa (.bool true) (row_ne hs8.out hcs8 (by decide)))
           have hT9 : TChg lo [4] w8 (w8.setCell ⟨gb, aa, none⟩ (.bool true)) := TChg.of_set hcs8 (by simp) hg3 aa _
           have hd9 := Lib.hid (hd8.out.tchg hT9 (by decide) (by decide) (by decide))
           have hb9 := Lib.hid (hT9.from_ hb8.out hlw (by omega))
           have hst9 := Lib.hid (hst8 true)
           clear hst8 hcs8 hT9 hs8 hz8 hd8 hb8
           go_wp2_with fail
           go_roundw
           case rel => exact ⟨j + 1, Z.set aa true, by go_num, by omega, by omega, hZs, hs9, hst9, hd9, hb9⟩
           case measure => simp [intOf]; omega
       · by_cases h1 : j < n2
         · by_cases h2 : j < 60
           · have h3 : N < 1 := by omega
             have h3' : ¬ (0 < (N : Int)) := by omega
             clear hlt2
             go_wp2_with fail
             go_meet
             exact ⟨Z, hZ, hs5, hz5, hd5, hb5⟩
           · clear hlt2
             go_wp2_with fail
             go_meet
             exact ⟨Z, hZ, hs5, hz5, hd5, hb5⟩
         · clear hlt2
           go_wp2_with fail
           go_meet
           exact ⟨Z, hZ, hs5, hz5, hd5, hb5⟩
    case rest =>
      obtain ⟨Z, hZ, hs5, hz5, hd5, hb5⟩ := hcut
      clear hs4 hz4 hd4' hb4
      go_wp2_with fail
      go_loopw [13] (fun i wr => ∃ k : Nat, i = .int .i64 k ∧ k ≤ N ∧ Hid (SRow wr lo (.slice A6 N c6) L) ∧ Hid (BRow wr lo (.slice (some ⟨gb, 0, none⟩) N N) Z) ∧ Hid (Ct wr lo hi4 lo (kz L Z)) ∧ Hid (Below w.heap.size w wr)) (fun i _ => N - (intOf i).toNat)
      case atStart => exact ⟨0, rfl, Nat.zero_le _, hs5, hz5, hd5, hb5⟩
      case round =>
        obtain ⟨k, rfl, hk, hs6, hz6, hd6, hb6⟩ := hrel
        clear hs5 hz5 hd5 hb5
        by_cases hlt : k < N
        · obtain ⟨l, hl⟩ : ∃ l, L[k]? = some l := ⟨_, List.getElem?_eq_getElem (by rw [hN.out]; exact hlt)⟩
          obtain ⟨z, hz⟩ : ∃ z, Z[k]? = some z := ⟨_, List.getElem?_eq_getElem (by rw [hZ.out]; exact hlt)⟩
          have hread := Lib.hid (kz_read L Z hl hz)
          replace hl := Lib.hid hl
          replace hz := Lib.hid hz
          go_wp2_with fail
          refine (cread_any lo _ lo _ (k : Int) (by unfold I64; omega) _ hd6.out).mono ?_
          rw [hread.out]
          rintro e w7 ⟨v7, rfl, ho7, hbb⟩
          have hs7 : Hid (SRow w7 lo (.slice A6 N c6) L) := Lib.hid (row_below hs6.out hbb)
          have hz7 : Hid (BRow w7 lo (.slice (some ⟨gb, 0, none⟩) N N) Z) := Lib.hid (row_below hz6.out hbb)
          have hd7 := Lib.hid (hd6.out.below hbb)
          have hb7 := Lib.hid (hb6.out.trans (hbb.mono hb6.out.size))
          obtain ⟨A7, c7, rfl, -, -, hR7, -⟩ := ho7.form
          clear hs6 hz6 hd6 hb6 hbb ho7
          obtain ⟨gs, rfl, -, -, cs, -⟩ := hs7.out.at_ hl.out
          obtain ⟨_, hgbe, -, -, -, cz, -⟩ := hz7.out.at_ hz.out
          injection hgbe with hgbe
          injection hgbe with hgbe
          subst hgbe
          cases z with
          | true =>
            try simp only [if_true] at hR7 ⊢
            replace hR7 := Lib.hid hR7
            go_wp2_with fail
            go_quiet (fail)
            go_wp2_with fail
            go_roundw
            case rel => exact ⟨k + 1, by go_num, by omega, hs7, hz7, hd7.out.drewN _ |> Lib.hid, Lib.hid (below_dn hb7.out _)⟩
            case measure => simp [intOf]; omega
          | false =>
            simp only [Bool.false_eq_true, if_false] at hR7 ⊢
            have hcv := fun nq => run_str_at (w := w7.drewN nq) (n := l.length) c7 hR7 rfl
            replace hR7 := Lib.hid hR7
            go_wp2_with fail
            go_quiet (fail)
            go_wp2_with fail
            go_roundw
            case rel => exact ⟨k + 1, by go_num, by omega, hs7, hz7, hd7.out.drewN _ |> Lib.hid, Lib.hid (below_dn hb7.out _)⟩
            case measure => simp [intOf]; omega
        · obtain rfl : k = N := by omega
          go_wp2_with fail
          refine (awake07_any _).mono ?_
          rintro e w9 ⟨rfl, hba⟩
          have hd9 := Lib.hid (hd6.out.below hba)
          have hb9 := Lib.hid (hb6.out.trans (hba.mono hb6.out.size))
          have hlen : Hid ((kz L Z).recs.length = k) := Lib.hid (by show (L.zip Z).length = k; rw [List.length_zip, hN.out, hZ.out, Nat.min_self])
          have hroom : Hid ((kz L Z).room = 100 - (k : Int)) := Lib.hid (by
            unfold CS.room
            rw [if_neg (by show ¬ (false = true); decide), hlen.out]
            rfl)
          clear hba hs6 hz6 hd6 hb6
          go_wp2_with fail
          refine (clen_any lo _ lo _ _ hd9.out).mono ?_
          rw [hlen.out]
          rintro e w10 ⟨rfl, rfl⟩
          go_wp2_with fail
          refine (croom_any lo _ lo _ _ hd9.out).mono ?_
          rw [hroom.out]
          rintro e w11 ⟨rfl, nq, rfl⟩
          go_wp2
          go_ret
          exact ⟨rfl, below_dn hb9.out _⟩
end Go.Proofs.Ytppclmidnomkjaa
