/- The laws of word: WordBack. -/
import Derived.Test.YticdkmnjolkacabWordLaw
import Derived.Test.YticdkmnjolkacabOpenIS
import Derived.Test.YticdkmnjolkacabRegRd
import Derived.Deep.CutBlock
import Derived.Deep.DeepCutAuto
import Derived.IntWalk
namespace Go.Proofs.Yticdkmnjolkacab
set_option linter.unusedVariables false
set_option linter.unusedSimpArgs false
open Go Go.RowKit
/-- what is written for the k-th -/
def item (z : Nat → Int) (t : Nat → List UInt8) (n : Nat) (k : Nat) : List UInt8 := enc (z k).toNat ++ (if k < n then enc (t k).length ++ t k else [])
def wb (z : Nat → Int) (t : Nat → List UInt8) (n : Nat) : Nat → List UInt8
  | 0 => []
  | k + 1 => wb z t n k ++ item z t n k
def sfx (z : Nat → Int) (t : Nat → List UInt8) (n : Nat) : Nat → Nat → List UInt8
  | 0, _ => []
  | j + 1, k => item z t n k ++ sfx z t n j (k + 1)
theorem wb_sfx (z : Nat → Int) (t : Nat → List UInt8) (n : Nat) : ∀ j k, wb z t n k ++ sfx z t n j k = wb z t n (k + j)
  | 0, k => by simp [sfx]
  | j + 1, k => by
    have := wb_sfx z t n j (k + 1)
    rw [show k + (j + 1) = k + 1 + j from by omega, ← this]
    simp [sfx, wb]
theorem item_len (z : Nat → Int) (t : Nat → List UInt8) (n k : Nat) (hz : (z k).toNat ≤ 9223372036854775807) (ht : k < n → (t k).length ≤ 1048576) : (item z t n k).length ≤ 1048600 := by
  have h1 := (enc_length (z k).toNat hz).2
  unfold item
  rw [List.length_append]
  split
  · have := ht (by assumption)
    have h2 := (enc_length (t k).length (by omega)).2
    rw [List.length_append]
    omega
  · simp; omega
theorem wb_len (z : Nat → Int) (t : Nat → List UInt8) (n m : Nat) (hz : ∀ k, k < m → (z k).toNat ≤ 9223372036854775807) (ht : ∀ k, k < n → (t k).length ≤ 1048576) : ∀ k, k ≤ m → (wb z t n k).length ≤ k * 1048600
  | 0, _ => by simp [wb]
  | k + 1, hk => by
    have h1 := wb_len z t n m hz ht k (by omega)
    have h2 := item_len z t n k (hz k (by omega)) (ht k)
    simp only [wb, List.length_append]
    omega
theorem sfx_len (z : Nat → Int) (t : Nat → List UInt8) (n m : Nat) (hz : ∀ k, k < m → (z k).toNat ≤ 9223372036854775807) (ht : ∀ k, k < n → (t k).length ≤ 1048576) : ∀ j k, k + j ≤ m → (sfx z t n j k).length ≤ j * 1048600
  | 0, _, _ => by simp [sfx]
  | j + 1, k, hk => by
    have h1 := sfx_len z t n m hz ht j (k + 1) (by omega)
    have h2 := item_len z t n k (hz k (by omega)) (ht k)
    simp only [sfx, List.length_append]
    omega
theorem rget_enc (n : Nat) (hn : n ≤ 9223372036854775807) (l : List UInt8) : rget (some (enc n ++ l)) (n : Int) = ((n : Int), some l) := by
  unfold rget
  simp only [lead_enc n hn l]
  rw [if_pos (Int.le_refl _), List.drop_left]
theorem rtext_enc (m l : List UInt8) (hm : m.length ≤ 9223372036854775807) : rtext (some (enc m.length ++ (m ++ l))) (m.length : Int) = (m, some l) := by
  unfold rtext
  rw [rget_enc m.length hm]
  simp only [Int.toNat_natCast]
  rw [if_pos (by simp), List.take_left, List.drop_left]
theorem max0 (x : Int) : (if x < 0 then 0 else x) = ((x.toNat : Nat) : Int) := by split <;> omega
set_option maxHeartbeats 4000000 in
set_option maxRecDepth 10000 in
theorem wordBack_any (A : Option Addr) (n c : Nat) (hnc : n ≤ c) (hcm : c ≤ maxLen) (z : Nat → Int) (A2 : Option Addr) (n2 c2 : Nat) (hnc2 : n2 ≤ c2) (hcm2 : c2 ≤ maxLen) (t : Nat → List UInt8) (w : World)
    (hi : IAt w w.heap.size A n z) (hs : SAt w w.heap.size A2 n2 t) (htl : ∀ i, i < n2 → (t i).length ≤ 1048576) :
    Calls Try.prog 3 #[.slice A n c, .slice A2 n2 c2] w fun e w' => e = .returned (.bool true) ∧ Below w.heap.size w w' := by
  unfold maxLen at hcm hcm2
  obtain ⟨K, hK⟩ : ∃ K, K = min n 40 := ⟨_, rfl⟩
  have hKn : K ≤ n := by omega
  have hK40 : K ≤ 40 := by omega
  have hzr : ∀ k, k < K → (z k).toNat ≤ 9223372036854775807 := fun k hk => by have := hi.2 k (by omega); omega
  have hwl := Lib.hid (wb_len z t n2 K hzr htl)
  have hsl := Lib.hid (sfx_len z t n2 K hzr htl)
  have hzz : Hid (∀ k, k < n → -9223372036854775808 ≤ z k ∧ z k ≤ 9223372036854775807) := Lib.hid hi.2
  replace hzr := Lib.hid hzr
  replace htl := Lib.hid htl
  replace hi := Lib.hid hi
  replace hs := Lib.hid hs
  replace hK := Lib.hid hK
  have hb0 := Lib.hid ((Below.refl w.heap.size w).alloc (Nat.le_refl _) (.cells #[] 5))
  have ho0 := Lib.hid (OB.empty w w.heap.size (Nat.le_refl _))
  go_enter Try.func3, Try.ntmps3
  go_upto_block 0 with (fail)
  go_cut [5] (fun u wx => ∃ (A5 : Option Addr) (c5 : Nat), u = .slice A5 (wb z t n2 K).length c5 ∧ Hid (OB wx w.heap.size (.slice A5 (wb z t n2 K).length c5) (wb z t n2 K)) ∧ Hid (Below w.heap.size w wx))
  case first =>
    go_wp2_with fail
    go_loopw [5, 6] (fun u i wr => ∃ (k m : Nat) (A5 : Option Addr) (c5 : Nat), i = .int .i64 k ∧ u = .slice A5 m c5 ∧ k ≤ K ∧ Hid ((wb z t n2 k).length = m) ∧ Hid (OB wr w.heap.size (.slice A5 m c5) (wb z t n2 k)) ∧ Hid (Below w.heap.size w wr)) (fun _ i _ => K - (intOf i).toNat)
    case atStart => exact ⟨0, 0, _, _, rfl, rfl, Nat.zero_le _, Lib.hid rfl, ho0, hb0⟩
    case round =>
      obtain ⟨k, m, A5, c5, rfl, rfl, hk, hm, ho, hb⟩ := hrel
      clear ho0 hb0
      by_cases hlt : k < K
      · have hkn : k < n := by omega
        have hk40 : k < 40 := by omega
        have hm1 : m ≤ k * 1048600 := by rw [← hm.out]; exact hwl.out k hk
        have hm2 : m ≤ 41944000 := by omega
        obtain ⟨hz1, hz2⟩ := hzz.out k hkn
        obtain ⟨ad, rfl, -, ci⟩ := hi.out.get hb.out hkn
        have hR := Lib.hid ho.out.rd.1
        have hbs := hb.out.size
        go_wp2_with fail
        refine (put_any A5 m c5 (wb z t n2 k) hm.out (z k) hz1 hz2 (by omega) _ hR.out).mono ?_
        rintro e w3 ⟨v3, rfl, ho3, hb3⟩
        replace hb3 := Lib.hid (hb.out.trans (hb3.mono hb.out.size))
        have hen := enc_length (z k).toNat (hzr.out k hlt)
        obtain ⟨A3, c3, rfl, hc3, -, hR3, -⟩ := ho3.form
        obtain ⟨m3, hm3⟩ : ∃ m3, (wb z t n2 k ++ enc (z k).toNat).length = m3 := ⟨_, rfl⟩
        rw [hm3] at hc3 ho3 ⊢
        have hm4 : m3 ≤ 41944009 := by rw [← hm3, List.length_append, hm.out]; omega
        replace ho3 := Lib.hid (ho3.more hbs)
        replace hR3 := Lib.hid hR3
        replace hm3 := Lib.hid hm3
        clear ho hb hR ci hm1
        by_cases hk2 : k < n2
        · obtain ⟨ad2, rfl, -, ct⟩ := hs.out.get hb3.out hk2
          have htk := htl.out k hk2
          have hbs3 := hb3.out.size
          go_wp2_with fail
          refine (text_any A3 m3 c3 _ hm3.out (t k) (by omega) _ hR3.out).mono ?_
          rintro e w4 ⟨v4, rfl, ho4, hb4⟩
          replace hb4 := Lib.hid (hb3.out.trans (hb4.mono hb3.out.size))
          have hw1 : (wb z t n2 k ++ enc (z k).toNat ++ enc (t k).length) ++ t k = wb z t n2 (k + 1) := by simp [wb, item, hk2]
          rw [hw1] at ho4
          obtain ⟨A4, c4, rfl, -, -, -, -⟩ := ho4.form
          replace ho4 := Lib.hid (ho4.more hbs3)
          replace hw1 := Lib.hid hw1
          clear hb3 ho3 hR3 ct
          go_wp2_with fail
          go_roundw
          case rel => exact ⟨k + 1, _, A4, c4, by go_num, rfl, by omega, Lib.hid rfl, ho4, hb4⟩
          case measure => simp [intOf]; omega
        · have hw1 : wb z t n2 k ++ enc (z k).toNat = wb z t n2 (k + 1) := by simp [wb, item, hk2]
          replace ho3 : Hid (OB w3 w.heap.size (.slice A3 m3 c3) (wb z t n2 (k + 1))) := Lib.hid (by rw [← hw1]; exact ho3.out)
          replace hm3 : Hid ((wb z t n2 (k + 1)).length = m3) := Lib.hid (by rw [← hw1]; exact hm3.out)
          replace hw1 := Lib.hid hw1
          go_wp2_with fail
          go_roundw
          case rel => exact ⟨k + 1, m3, A3, c3, by go_num, rfl, by omega, hm3, ho3, hb3⟩
          case measure => simp [intOf]; omega
      · obtain rfl : k = K := by omega
        by_cases h40 : n ≤ 40
        · have hkn : ¬ (k < n) := by have := hK.out; omega
          go_wp2_with fail
          go_meet
          exact ⟨A5, c5, by rw [hm.out], by rw [hm.out]; exact ho, hb⟩
        · have hkn : k < n := by have := hK.out; omega
          have hk40 : ¬ (k < 40) := by have := hK.out; omega
          go_wp2_with fail
          go_meet
          exact ⟨A5, c5, by rw [hm.out], by rw [hm.out]; exact ho, hb⟩
  case rest =>
    obtain ⟨A5, c5, rfl, ho, hb⟩ := hcut
    clear ho0 hb0
    have hall : wb z t n2 K = sfx z t n2 K 0 := by have := wb_sfx z t n2 K 0; rw [Nat.zero_add] at this; rw [← this]; rfl
    have hm1 := hwl.out K (Nat.le_refl _)
    have hR := Lib.hid ho.out.rd.1
    obtain ⟨m, hm⟩ : ∃ m, (wb z t n2 K).length = m := ⟨_, rfl⟩
    rw [hm] at ho hm1 ⊢
    replace hm := Lib.hid hm
    have hm2 : m ≤ 41944000 := by omega
    replace hall := Lib.hid hall
    go_wp2_with fail
    refine (new_any A5 m c5 _ hm.out (by omega) _ hR.out).mono ?_
    rintro e w2 ⟨g, rfl, hgg, hrd0, hb2⟩
    rw [hall.out] at hrd0
    have hgw : w.heap.size ≤ g := Nat.le_trans hb.out.size hgg
    replace hrd0 := Lib.hid hrd0
    replace hb2 := Lib.hid (hb.out.trans (hb2.mono hb.out.size))
    clear ho hb hR hgg
    go_wp2_with fail
    go_loopw [8] (fun i wr => ∃ (k j : Nat), i = .int .i64 k ∧ k + j = K ∧ Hid (Rdr wr g (some (sfx z t n2 j k))) ∧ Hid (Below w.heap.size w wr)) (fun i _ => K - (intOf i).toNat)
    case atStart => exact ⟨0, K, rfl, Nat.zero_add _, hrd0, hb2⟩
    case round =>
      obtain ⟨k, j, rfl, hkj, hrd, hb⟩ := hrel
      clear hrd0 hb2
      replace hkj := Lib.hid hkj
      by_cases hlt : k < K
      · obtain ⟨q, rfl⟩ : ∃ q, j = q + 1 := ⟨j - 1, by have := hkj.out; omega⟩
        have hkn : k < n := by omega
        have hk40 : k < 40 := by omega
        obtain ⟨hz1, hz2⟩ := hzz.out k hkn
        obtain ⟨ad, rfl, -, ci⟩ := hi.out.get hb.out hkn
        have hln := hsl.out (q + 1) k (by have := hkj.out; omega)
        have hq40 : q + 1 ≤ 40 := by have := hkj.out; omega
        obtain ⟨z0, hz0⟩ : ∃ z0, (z k).toNat = z0 := ⟨_, rfl⟩
        have hz3 : z0 ≤ 9223372036854775807 := by omega
        have hen := enc_length z0 hz3
        have hbs := hb.out.size
        have hgl := hrd.out.lt
        by_cases hk2 : k < n2
        · obtain ⟨ad2, rfl, htb0, tc0⟩ := hs.out.get hb.out hk2
          have htk := htl.out k hk2
          have hspl : sfx z t n2 (q + 1) k = enc z0 ++ (enc (t k).length ++ (t k ++ sfx z t n2 q (k + 1))) := by simp [sfx, item, hk2, hz0]
          rw [hspl] at hrd hln
          simp only [List.length_append] at hln
          have hlen : Hid ((enc z0 ++ (enc (t k).length ++ (t k ++ sfx z t n2 q (k + 1)))).length ≤ 140737488355328) := Lib.hid (by simp only [List.length_append]; omega)
          have hlen2 : Hid ((enc (t k).length ++ (t k ++ sfx z t n2 q (k + 1))).length ≤ 140737488355328) := Lib.hid (by simp only [List.length_append]; omega)
          have hget := Lib.hid (rget_enc z0 hz3 (enc (t k).length ++ (t k ++ sfx z t n2 q (k + 1))))
          have htxt := Lib.hid (rtext_enc (t k) (sfx z t n2 q (k + 1)) (by omega))
          clear hspl hln
          by_cases hneg : z k < 0
          · replace hneg := hneg
            have hget : Hid (rget (some (enc z0 ++ (enc (t k).length ++ (t k ++ sfx z t n2 q (k + 1))))) (0 : Int) = ((0 : Int), some (enc (t k).length ++ (t k ++ sfx z t n2 q (k + 1))))) := Lib.hid (by have h := rget_enc z0 hz3 (enc (t k).length ++ (t k ++ sfx z t n2 q (k + 1))); rw [show (z0 : Int) = 0 from by omega] at h; exact h)
            have hwr : IntKind.i64.wrap ((k : Int) + 1) = (k : Int) + 1 := IntWalk.i64_in _ (by omega)
            replace hz0 := Lib.hid hz0
            clear hwr
            go_wp2_with fail
            obtain ⟨wd, hwd⟩ : ∃ wd, wd = wr.drew := ⟨_, rfl⟩
            have hb4 : Hid (Below w.heap.size w wd) := Lib.hid (by rw [hwd]; exact hb.out.drew)
            replace hrd : Hid (Rdr wd g (some (enc z0 ++ (enc (t k).length ++ (t k ++ sfx z t n2 q (k + 1)))))) := Lib.hid (by rw [hwd]; exact hrd.out)
            have tc : wd.cell? (ad2.add k) = some (.string (bs (t k))) := by rw [hwd]; exact tc0
            have htb : (ad2.add k).block < wd.heap.size := by rw [block_of_add, hwd]; exact Nat.lt_of_lt_of_le htb0 hbs
            have htg : ¬ ((ad2.add k).block = g) := by rw [block_of_add]; omega
            clear tc0
            refine wpR_region (Upd (fun k => k = g)) 9999 (by kernel_rfl) ?_
            (rw [← hwd]; replace hwd := Lib.hid hwd)
            refine wpR_take (i := 0) (v := ?_) (Upd.road _) (some 55) rfl (by kernel_rfl) (by kernel_rfl) (by kernel_rfl) (by kernel_rfl) (by kernel_rfl) (fun _ _ _ h => h) (by kernel_rfl) (fun w' hw' => ?_) ?_
            rotate_left
            · go_simp; with_reducible rfl
            simp only [Act.put, List.setIfInBounds_toArray, List.set_cons_zero, List.set_cons_succ]
            refine wpR_take (i := 1) (v := ?_) (Upd.road _) (some 56) rfl (by kernel_rfl) (by kernel_rfl) (by kernel_rfl) (by kernel_rfl) (by kernel_rfl) (fun _ _ _ h => h) (by kernel_rfl) (fun w' hw' => ?_) ?_
            rotate_left
            · go_simp; with_reducible rfl
            simp only [Act.put, List.setIfInBounds_toArray, List.set_cons_zero, List.set_cons_succ]
            refine wpR_take (i := 3) (v := ?_) (Upd.road _) (some 58) rfl (by kernel_rfl) (by kernel_rfl) (by kernel_rfl) (by kernel_rfl) (by kernel_rfl) (fun _ _ _ h => h) (by kernel_rfl) (fun w' hw' => ?_) ?_
            rotate_left
            · go_simp; with_reducible rfl
            simp only [Act.put, List.setIfInBounds_toArray, List.set_cons_zero, List.set_cons_succ]
            refine wpR_one 2 rfl (by kernel_rfl) (by kernel_rfl) (fun K hK => ?_)
            go_simp
            refine (get_any g _ (0 : Int) (by omega) (by omega) _ hrd.out (fun l e => by injection e with e; subst e; exact hlen.out)).mono ?_
            rw [hget.out]
            rintro e w5 ⟨rfl, hs1, hgr⟩
            refine hK _ _ (fun _ => Upd.of_grown hgr rfl) ?_
            clear hK K
            have tc5 := ((Upd.of_grown (S := (· = g)) hgr rfl).cell (p := ad2.add k) htb htg).trans tc
            have htb5 : (ad2.add k).block < w5.heap.size := Nat.lt_of_lt_of_le htb (grown_size hgr)
            clear tc
            have hb5 := Lib.hid (below_grown hb4.out hb4.out.size hgr hgw)
            replace hrd := Lib.hid hs1
            clear hgr hs1
            try simp only [Act.put, List.setIfInBounds_toArray, List.set_cons_zero, List.set_cons_succ]
            refine wpR_take (i := 4) (v := ?_) (Upd.road _) (some 59) rfl (by kernel_rfl) (by kernel_rfl) (by kernel_rfl) (by kernel_rfl) (by kernel_rfl) (fun _ _ _ h => h) (by kernel_rfl) (fun w' hw' => ?_) ?_
            rotate_left
            · go_simp; with_reducible rfl
            simp only [Act.put, List.setIfInBounds_toArray, List.set_cons_zero, List.set_cons_succ]
            refine wpR_take (i := 5) (v := ?_) (Upd.road _) (some 60) rfl (by kernel_rfl) (by kernel_rfl) (by kernel_rfl) (by kernel_rfl) (by kernel_rfl) (fun _ _ _ h => h) (by kernel_rfl) (fun w' hw' => ?_) ?_
            rotate_left
            · go_simp; with_reducible rfl
            simp only [Act.put, List.setIfInBounds_toArray, List.set_cons_zero, List.set_cons_succ]
            refine wpR_take (i := 6) (v := ?_) (Upd.road _) (some 61) rfl (by kernel_rfl) (by kernel_rfl) (by kernel_rfl) (by kernel_rfl) (by kernel_rfl) (fun _ _ _ h => h) (by kernel_rfl) (fun w' hw' => ?_) ?_
            rotate_left
            · go_simp; with_reducible rfl
            simp only [Act.put, List.setIfInBounds_toArray, List.set_cons_zero, List.set_cons_succ]
            refine wpR_take (i := 7) (v := ?_) (Upd.road _) (some 62) rfl (by kernel_rfl) (by kernel_rfl) (by kernel_rfl) (by kernel_rfl) (by kernel_rfl) (fun _ _ _ h => h) (by kernel_rfl) (fun w' hw' => ?_) ?_
            rotate_left
            · go_simp; with_reducible rfl
            simp only [Act.put, List.setIfInBounds_toArray, List.set_cons_zero, List.set_cons_succ]
            refine wpR_take (i := 8) (v := ?_) (Upd.road _) (some 63) rfl (by kernel_rfl) (by kernel_rfl) (by kernel_rfl) (by kernel_rfl) (by kernel_rfl) (fun _ _ _ h => h) (by kernel_rfl) (fun w' hw' => ?_) ?_
            rotate_left
            · go_simp; with_reducible rfl
            simp only [Act.put, List.setIfInBounds_toArray, List.set_cons_zero, List.set_cons_succ]
            refine wpR_take (i := 9) (v := ?_) (Upd.road _) (some 64) rfl (by kernel_rfl) (by kernel_rfl) (by kernel_rfl) (by kernel_rfl) (by kernel_rfl) (fun _ _ _ h => h) (by kernel_rfl) (fun w' hw' => ?_) ?_
            rotate_left
            · go_simp; with_reducible rfl
            simp only [Act.put, List.setIfInBounds_toArray, List.set_cons_zero, List.set_cons_succ]
            refine wpR_take (i := 10) (v := ?_) (Upd.road _) (some 65) rfl (by kernel_rfl) (by kernel_rfl) (by kernel_rfl) (by kernel_rfl) (by kernel_rfl) (fun _ _ _ h => h) (by kernel_rfl) (fun w' hw' => ?_) ?_
            rotate_left
            · go_simp; with_reducible rfl
            simp only [Act.put, List.setIfInBounds_toArray, List.set_cons_zero, List.set_cons_succ]
            refine wpR_take (i := 11) (v := ?_) (Upd.road _) (some 66) rfl (by kernel_rfl) (by kernel_rfl) (by kernel_rfl) (by kernel_rfl) (by kernel_rfl) (fun _ _ _ h => h) (by kernel_rfl) (fun w' hw' => ?_) ?_
            rotate_left
            · go_simp; with_reducible rfl
            simp only [Act.put, List.setIfInBounds_toArray, List.set_cons_zero, List.set_cons_succ]
            refine wpR_take (i := 12) (v := ?_) (Upd.road _) (some 67) rfl (by kernel_rfl) (by kernel_rfl) (by kernel_rfl) (by kernel_rfl) (by kernel_rfl) (fun _ _ _ h => h) (by kernel_rfl) (fun w' hw' => ?_) ?_
            rotate_left
            · go_simp; with_reducible rfl
            simp only [Act.put, List.setIfInBounds_toArray, List.set_cons_zero, List.set_cons_succ]
            refine wpR_take (i := 13) (v := ?_) (Upd.road _) (some 68) rfl (by kernel_rfl) (by kernel_rfl) (by kernel_rfl) (by kernel_rfl) (by kernel_rfl) (fun _ _ _ h => h) (by kernel_rfl) (fun w' hw' => ?_) ?_
            rotate_left
            · go_simp; with_reducible rfl
            simp only [Act.put, List.setIfInBounds_toArray, List.set_cons_zero, List.set_cons_succ]
            refine wpR_take (i := 14) (v := ?_) (Upd.road _) (some 69) rfl (by kernel_rfl) (by kernel_rfl) (by kernel_rfl) (by kernel_rfl) (by kernel_rfl) (fun _ _ _ h => h) (by kernel_rfl) (fun w' hw' => ?_) ?_
            rotate_left
            · go_simp; with_reducible rfl
            simp only [Act.put, List.setIfInBounds_toArray, List.set_cons_zero, List.set_cons_succ]
            refine wpR_take (i := 15) (v := ?_) (Upd.road _) (some 70) rfl (by kernel_rfl) (by kernel_rfl) (by kernel_rfl) (by kernel_rfl) (by kernel_rfl) (fun _ _ _ h => h) (by kernel_rfl) (fun w' hw' => ?_) ?_
            rotate_left
            · have tq := (hw'.cell (p := ad2.add k) htb5 htg).trans tc5; go_simp; with_reducible rfl
            simp only [Act.put, List.setIfInBounds_toArray, List.set_cons_zero, List.set_cons_succ]
            refine wpR_take (i := 16) (v := ?_) (Upd.road _) (some 71) rfl (by kernel_rfl) (by kernel_rfl) (by kernel_rfl) (by kernel_rfl) (by kernel_rfl) (fun _ _ _ h => h) (by kernel_rfl) (fun w' hw' => ?_) ?_
            rotate_left
            · go_simp; with_reducible rfl
            simp only [Act.put, List.setIfInBounds_toArray, List.set_cons_zero, List.set_cons_succ]
            refine wpR_take (i := 18) (v := ?_) (Upd.road _) (some 73) rfl (by kernel_rfl) (by kernel_rfl) (by kernel_rfl) (by kernel_rfl) (by kernel_rfl) (fun _ _ _ h => h) (by kernel_rfl) (fun w' hw' => ?_) ?_
            rotate_left
            · go_simp; with_reducible rfl
            simp only [Act.put, List.setIfInBounds_toArray, List.set_cons_zero, List.set_cons_succ]
            refine wpR_take (i := 19) (v := ?_) (Upd.road _) (some 74) rfl (by kernel_rfl) (by kernel_rfl) (by kernel_rfl) (by kernel_rfl) (by kernel_rfl) (fun _ _ _ h => h) (by kernel_rfl) (fun w' hw' => ?_) ?_
            rotate_left
            · go_simp; with_reducible rfl
            simp only [Act.put, List.setIfInBounds_toArray, List.set_cons_zero, List.set_cons_succ]
            refine wpR_take (i := 20) (v := ?_) (Upd.road _) (some 75) rfl (by kernel_rfl) (by kernel_rfl) (by kernel_rfl) (by kernel_rfl) (by kernel_rfl) (fun _ _ _ h => h) (by kernel_rfl) (fun w' hw' => ?_) ?_
            rotate_left
            · go_simp; with_reducible rfl
            simp only [Act.put, List.setIfInBounds_toArray, List.set_cons_zero, List.set_cons_succ]
            refine wpR_take (i := 21) (v := ?_) (Upd.road _) (some 76) rfl (by kernel_rfl) (by kernel_rfl) (by kernel_rfl) (by kernel_rfl) (by kernel_rfl) (fun _ _ _ h => h) (by kernel_rfl) (fun w' hw' => ?_) ?_
            rotate_left
            · have tq := (hw'.cell (p := ad2.add k) htb5 htg).trans tc5; go_simp; with_reducible rfl
            simp only [Act.put, List.setIfInBounds_toArray, List.set_cons_zero, List.set_cons_succ]
            refine wpR_one 17 rfl (by kernel_rfl) (by kernel_rfl) (fun K hK => ?_)
            go_simp
            refine (rtext_any g _ ((t k).length : Nat) (by omega) (by omega) _ hrd.out (fun l e => by injection e with e; subst e; exact hlen2.out)).mono ?_
            rw [htxt.out]
            rintro e w6 ⟨rfl, hs1, hgr⟩
            refine hK _ _ (fun _ => Upd.of_grown hgr rfl) ?_
            clear hK K
            have hb6 := Lib.hid (below_grown hb5.out hb5.out.size hgr hgw)
            replace hrd := Lib.hid hs1
            clear hgr hs1
            try simp only [Act.put, List.setIfInBounds_toArray, List.set_cons_zero, List.set_cons_succ]
            refine wpR_take (i := 22) (v := ?_) (Upd.road _) (some 77) rfl (by kernel_rfl) (by kernel_rfl) (by kernel_rfl) (by kernel_rfl) (by kernel_rfl) (fun _ _ _ h => h) (by kernel_rfl) (fun w' hw' => ?_) ?_
            rotate_left
            · go_simp; with_reducible rfl
            simp only [Act.put, List.setIfInBounds_toArray, List.set_cons_zero, List.set_cons_succ]
            refine wpR_take (i := 23) (v := ?_) (Upd.road _) (some 78) rfl (by kernel_rfl) (by kernel_rfl) (by kernel_rfl) (by kernel_rfl) (by kernel_rfl) (fun _ _ _ h => h) (by kernel_rfl) (fun w' hw' => ?_) ?_
            rotate_left
            · go_simp; with_reducible rfl
            simp only [Act.put, List.setIfInBounds_toArray, List.set_cons_zero, List.set_cons_succ]
            refine wpR_take (i := 24) (v := ?_) (Upd.road _) (some 79) rfl (by kernel_rfl) (by kernel_rfl) (by kernel_rfl) (by kernel_rfl) (by kernel_rfl) (fun _ _ _ h => h) (by kernel_rfl) (fun w' hw' => ?_) ?_
            rotate_left
            · go_simp; with_reducible rfl
            simp only [Act.put, List.setIfInBounds_toArray, List.set_cons_zero, List.set_cons_succ]
            refine wpR_done (by kernel_rfl) ?_ _
            go_wp2_with fail
            go_roundw
            case rel => exact ⟨k + 1, q, by go_num, by have := hkj.out; omega, hrd, hb6⟩
            case measure => simp [intOf]; omega
          · have hneg2 : 0 ≤ z k := by omega
            have hget : Hid (rget (some (enc z0 ++ (enc (t k).length ++ (t k ++ sfx z t n2 q (k + 1))))) (z k : Int) = ((z k : Int), some (enc (t k).length ++ (t k ++ sfx z t n2 q (k + 1))))) := Lib.hid (by have h := rget_enc z0 hz3 (enc (t k).length ++ (t k ++ sfx z t n2 q (k + 1))); rw [show (z0 : Int) = z k from by omega] at h; exact h)
            have hwr : IntKind.i64.wrap ((k : Int) + 1) = (k : Int) + 1 := IntWalk.i64_in _ (by omega)
            replace hz0 := Lib.hid hz0
            clear hwr
            go_wp2_with fail
            obtain ⟨wd, hwd⟩ : ∃ wd, wd = wr.drew := ⟨_, rfl⟩
            have hb4 : Hid (Below w.heap.size w wd) := Lib.hid (by rw [hwd]; exact hb.out.drew)
            replace hrd : Hid (Rdr wd g (some (enc z0 ++ (enc (t k).length ++ (t k ++ sfx z t n2 q (k + 1)))))) := Lib.hid (by rw [hwd]; exact hrd.out)
            have tc : wd.cell? (ad2.add k) = some (.string (bs (t k))) := by rw [hwd]; exact tc0
            have htb : (ad2.add k).block < wd.heap.size := by rw [block_of_add, hwd]; exact Nat.lt_of_lt_of_le htb0 hbs
            have htg : ¬ ((ad2.add k).block = g) := by rw [block_of_add]; omega
            clear tc0
            refine wpR_region (Upd (fun k => k = g)) 9999 (by kernel_rfl) ?_
            (rw [← hwd]; replace hwd := Lib.hid hwd)
            refine wpR_take (i := 0) (v := ?_) (Upd.road _) (some 55) rfl (by kernel_rfl) (by kernel_rfl) (by kernel_rfl) (by kernel_rfl) (by kernel_rfl) (fun _ _ _ h => h) (by kernel_rfl) (fun w' hw' => ?_) ?_
            rotate_left
            · go_simp; with_reducible rfl
            simp only [Act.put, List.setIfInBounds_toArray, List.set_cons_zero, List.set_cons_succ]
            refine wpR_take (i := 1) (v := ?_) (Upd.road _) (some 56) rfl (by kernel_rfl) (by kernel_rfl) (by kernel_rfl) (by kernel_rfl) (by kernel_rfl) (fun _ _ _ h => h) (by kernel_rfl) (fun w' hw' => ?_) ?_
            rotate_left
            · go_simp; with_reducible rfl
            simp only [Act.put, List.setIfInBounds_toArray, List.set_cons_zero, List.set_cons_succ]
            refine wpR_take (i := 3) (v := ?_) (Upd.road _) (some 58) rfl (by kernel_rfl) (by kernel_rfl) (by kernel_rfl) (by kernel_rfl) (by kernel_rfl) (fun _ _ _ h => h) (by kernel_rfl) (fun w' hw' => ?_) ?_
            rotate_left
            · go_simp; with_reducible rfl
            simp only [Act.put, List.setIfInBounds_toArray, List.set_cons_zero, List.set_cons_succ]
            refine wpR_one 2 rfl (by kernel_rfl) (by kernel_rfl) (fun K hK => ?_)
            go_simp
            refine (get_any g _ (z k : Int) (by omega) (by omega) _ hrd.out (fun l e => by injection e with e; subst e; exact hlen.out)).mono ?_
            rw [hget.out]
            rintro e w5 ⟨rfl, hs1, hgr⟩
            refine hK _ _ (fun _ => Upd.of_grown hgr rfl) ?_
            clear hK K
            have tc5 := ((Upd.of_grown (S := (· = g)) hgr rfl).cell (p := ad2.add k) htb htg).trans tc
            have htb5 : (ad2.add k).block < w5.heap.size := Nat.lt_of_lt_of_le htb (grown_size hgr)
            clear tc
            have hb5 := Lib.hid (below_grown hb4.out hb4.out.size hgr hgw)
            replace hrd := Lib.hid hs1
            clear hgr hs1
            try simp only [Act.put, List.setIfInBounds_toArray, List.set_cons_zero, List.set_cons_succ]
            refine wpR_take (i := 4) (v := ?_) (Upd.road _) (some 59) rfl (by kernel_rfl) (by kernel_rfl) (by kernel_rfl) (by kernel_rfl) (by kernel_rfl) (fun _ _ _ h => h) (by kernel_rfl) (fun w' hw' => ?_) ?_
            rotate_left
            · go_simp; with_reducible rfl
            simp only [Act.put, List.setIfInBounds_toArray, List.set_cons_zero, List.set_cons_succ]
            refine wpR_take (i := 5) (v := ?_) (Upd.road _) (some 60) rfl (by kernel_rfl) (by kernel_rfl) (by kernel_rfl) (by kernel_rfl) (by kernel_rfl) (fun _ _ _ h => h) (by kernel_rfl) (fun w' hw' => ?_) ?_
            rotate_left
            · go_simp; with_reducible rfl
            simp only [Act.put, List.setIfInBounds_toArray, List.set_cons_zero, List.set_cons_succ]
            refine wpR_take (i := 6) (v := ?_) (Upd.road _) (some 61) rfl (by kernel_rfl) (by kernel_rfl) (by kernel_rfl) (by kernel_rfl) (by kernel_rfl) (fun _ _ _ h => h) (by kernel_rfl) (fun w' hw' => ?_) ?_
            rotate_left
            · go_simp; with_reducible rfl
            simp only [Act.put, List.setIfInBounds_toArray, List.set_cons_zero, List.set_cons_succ]
            refine wpR_take (i := 7) (v := ?_) (Upd.road _) (some 62) rfl (by kernel_rfl) (by kernel_rfl) (by kernel_rfl) (by kernel_rfl) (by kernel_rfl) (fun _ _ _ h => h) (by kernel_rfl) (fun w' hw' => ?_) ?_
            rotate_left
            · go_simp; with_reducible rfl
            simp only [Act.put, List.setIfInBounds_toArray, List.set_cons_zero, List.set_cons_succ]
            refine wpR_take (i := 8) (v := ?_) (Upd.road _) (some 63) rfl (by kernel_rfl) (by kernel_rfl) (by kernel_rfl) (by kernel_rfl) (by kernel_rfl) (fun _ _ _ h => h) (by kernel_rfl) (fun w' hw' => ?_) ?_
            rotate_left
            · go_simp; with_reducible rfl
            simp only [Act.put, List.setIfInBounds_toArray, List.set_cons_zero, List.set_cons_succ]
            refine wpR_take (i := 9) (v := ?_) (Upd.road _) (some 64) rfl (by kernel_rfl) (by kernel_rfl) (by kernel_rfl) (by kernel_rfl) (by kernel_rfl) (fun _ _ _ h => h) (by kernel_rfl) (fun w' hw' => ?_) ?_
            rotate_left
            · go_simp; with_reducible rfl
            simp only [Act.put, List.setIfInBounds_toArray, List.set_cons_zero, List.set_cons_succ]
            refine wpR_take (i := 10) (v := ?_) (Upd.road _) (some 65) rfl (by kernel_rfl) (by kernel_rfl) (by kernel_rfl) (by kernel_rfl) (by kernel_rfl) (fun _ _ _ h => h) (by kernel_rfl) (fun w' hw' => ?_) ?_
            rotate_left
            · go_simp; with_reducible rfl
            simp only [Act.put, List.setIfInBounds_toArray, List.set_cons_zero, List.set_cons_succ]
            refine wpR_take (i := 11) (v := ?_) (Upd.road _) (some 66) rfl (by kernel_rfl) (by kernel_rfl) (by kernel_rfl) (by kernel_rfl) (by kernel_rfl) (fun _ _ _ h => h) (by kernel_rfl) (fun w' hw' => ?_) ?_
            rotate_left
            · go_simp; with_reducible rfl
            simp only [Act.put, List.setIfInBounds_toArray, List.set_cons_zero, List.set_cons_succ]
            refine wpR_take (i := 12) (v := ?_) (Upd.road _) (some 67) rfl (by kernel_rfl) (by kernel_rfl) (by kernel_rfl) (by kernel_rfl) (by kernel_rfl) (fun _ _ _ h => h) (by kernel_rfl) (fun w' hw' => ?_) ?_
            rotate_left
            · go_simp; with_reducible rfl
            simp only [Act.put, List.setIfInBounds_toArray, List.set_cons_zero, List.set_cons_succ]
            refine wpR_take (i := 13) (v := ?_) (Upd.road _) (some 68) rfl (by kernel_rfl) (by kernel_rfl) (by kernel_rfl) (by kernel_rfl) (by kernel_rfl) (fun _ _ _ h => h) (by kernel_rfl) (fun w' hw' => ?_) ?_
            rotate_left
            · go_simp; with_reducible rfl
            simp only [Act.put, List.setIfInBounds_toArray, List.set_cons_zero, List.set_cons_succ]
            refine wpR_take (i := 14) (v := ?_) (Upd.road _) (some 69) rfl (by kernel_rfl) (by kernel_rfl) (by kernel_rfl) (by kernel_rfl) (by kernel_rfl) (fun _ _ _ h => h) (by kernel_rfl) (fun w' hw' => ?_) ?_
            rotate_left
            · go_simp; with_reducible rfl
            simp only [Act.put, List.setIfInBounds_toArray, List.set_cons_zero, List.set_cons_succ]
            refine wpR_take (i := 15) (v := ?_) (Upd.road _) (some 70) rfl (by kernel_rfl) (by kernel_rfl) (by kernel_rfl) (by kernel_rfl) (by kernel_rfl) (fun _ _ _ h => h) (by kernel_rfl) (fun w' hw' => ?_) ?_
            rotate_left
            · have tq := (hw'.cell (p := ad2.add k) htb5 htg).trans tc5; go_simp; with_reducible rfl
            simp only [Act.put, List.setIfInBounds_toArray, List.set_cons_zero, List.set_cons_succ]
            refine wpR_take (i := 16) (v := ?_) (Upd.road _) (some 71) rfl (by kernel_rfl) (by kernel_rfl) (by kernel_rfl) (by kernel_rfl) (by kernel_rfl) (fun _ _ _ h => h) (by kernel_rfl) (fun w' hw' => ?_) ?_
            rotate_left
            · go_simp; with_reducible rfl
            simp only [Act.put, List.setIfInBounds_toArray, List.set_cons_zero, List.set_cons_succ]
            refine wpR_take (i := 18) (v := ?_) (Upd.road _) (some 73) rfl (by kernel_rfl) (by kernel_rfl) (by kernel_rfl) (by kernel_rfl) (by kernel_rfl) (fun _ _ _ h => h) (by kernel_rfl) (fun w' hw' => ?_) ?_
            rotate_left
            · go_simp; with_reducible rfl
            simp only [Act.put, List.setIfInBounds_toArray, List.set_cons_zero, List.set_cons_succ]
            refine wpR_take (i := 19) (v := ?_) (Upd.road _) (some 74) rfl (by kernel_rfl) (by kernel_rfl) (by kernel_rfl) (by kernel_rfl) (by kernel_rfl) (fun _ _ _ h => h) (by kernel_rfl) (fun w' hw' => ?_) ?_
            rotate_left
            · go_simp; with_reducible rfl
            simp only [Act.put, List.setIfInBounds_toArray, List.set_cons_zero, List.set_cons_succ]
            refine wpR_take (i := 20) (v := ?_) (Upd.road _) (some 75) rfl (by kernel_rfl) (by kernel_rfl) (by kernel_rfl) (by kernel_rfl) (by kernel_rfl) (fun _ _ _ h => h) (by kernel_rfl) (fun w' hw' => ?_) ?_
            rotate_left
            · go_simp; with_reducible rfl
            simp only [Act.put, List.setIfInBounds_toArray, List.set_cons_zero, List.set_cons_succ]
            refine wpR_take (i := 21) (v := ?_) (Upd.road _) (some 76) rfl (by kernel_rfl) (by kernel_rfl) (by kernel_rfl) (by kernel_rfl) (by kernel_rfl) (fun _ _ _ h => h) (by kernel_rfl) (fun w' hw' => ?_) ?_
            rotate_left
            · have tq := (hw'.cell (p := ad2.add k) htb5 htg).trans tc5; go_simp; with_reducible rfl
            simp only [Act.put, List.setIfInBounds_toArray, List.set_cons_zero, List.set_cons_succ]
            refine wpR_one 17 rfl (by kernel_rfl) (by kernel_rfl) (fun K hK => ?_)
            go_simp
            refine (rtext_any g _ ((t k).length : Nat) (by omega) (by omega) _ hrd.out (fun l e => by injection e with e; subst e; exact hlen2.out)).mono ?_
            rw [htxt.out]
            rintro e w6 ⟨rfl, hs1, hgr⟩
            refine hK _ _ (fun _ => Upd.of_grown hgr rfl) ?_
            clear hK K
            have hb6 := Lib.hid (below_grown hb5.out hb5.out.size hgr hgw)
            replace hrd := Lib.hid hs1
            clear hgr hs1
            try simp only [Act.put, List.setIfInBounds_toArray, List.set_cons_zero, List.set_cons_succ]
            refine wpR_take (i := 22) (v := ?_) (Upd.road _) (some 77) rfl (by kernel_rfl) (by kernel_rfl) (by kernel_rfl) (by kernel_rfl) (by kernel_rfl) (fun _ _ _ h => h) (by kernel_rfl) (fun w' hw' => ?_) ?_
            rotate_left
            · go_simp; with_reducible rfl
            simp only [Act.put, List.setIfInBounds_toArray, List.set_cons_zero, List.set_cons_succ]
            refine wpR_take (i := 23) (v := ?_) (Upd.road _) (some 78) rfl (by kernel_rfl) (by kernel_rfl) (by kernel_rfl) (by kernel_rfl) (by kernel_rfl) (fun _ _ _ h => h) (by kernel_rfl) (fun w' hw' => ?_) ?_
            rotate_left
            · go_simp; with_reducible rfl
            simp only [Act.put, List.setIfInBounds_toArray, List.set_cons_zero, List.set_cons_succ]
            refine wpR_take (i := 24) (v := ?_) (Upd.road _) (some 79) rfl (by kernel_rfl) (by kernel_rfl) (by kernel_rfl) (by kernel_rfl) (by kernel_rfl) (fun _ _ _ h => h) (by kernel_rfl) (fun w' hw' => ?_) ?_
            rotate_left
            · go_simp; with_reducible rfl
            simp only [Act.put, List.setIfInBounds_toArray, List.set_cons_zero, List.set_cons_succ]
            refine wpR_done (by kernel_rfl) ?_ _
            go_wp2_with fail
            go_roundw
            case rel => exact ⟨k + 1, q, by go_num, by have := hkj.out; omega, hrd, hb6⟩
            case measure => simp [intOf]; omega
        · have hspl : sfx z t n2 (q + 1) k = enc z0 ++ (sfx z t n2 q (k + 1)) := by simp [sfx, item, hk2, hz0]
          rw [hspl] at hrd hln
          simp only [List.length_append] at hln
          have hlen : Hid ((enc z0 ++ (sfx z t n2 q (k + 1))).length ≤ 140737488355328) := Lib.hid (by simp only [List.length_append]; omega)
          clear hspl hln
          have hk3 : decide (k < n2) = false := decide_eq_false hk2
          by_cases hneg : z k < 0
          · replace hneg := hneg
            have hget : Hid (rget (some (enc z0 ++ (sfx z t n2 q (k + 1)))) (0 : Int) = ((0 : Int), some (sfx z t n2 q (k + 1)))) := Lib.hid (by have h := rget_enc z0 hz3 (sfx z t n2 q (k + 1)); rw [show (z0 : Int) = 0 from by omega] at h; exact h)
            have hwr : IntKind.i64.wrap ((k : Int) + 1) = (k : Int) + 1 := IntWalk.i64_in _ (by omega)
            replace hz0 := Lib.hid hz0
            clear hwr
            go_wp2_with fail
            obtain ⟨wd, hwd⟩ : ∃ wd, wd = wr.drew := ⟨_, rfl⟩
            have hb4 : Hid (Below w.heap.size w wd) := Lib.hid (by rw [hwd]; exact hb.out.drew)
            replace hrd : Hid (Rdr wd g (some (enc z0 ++ (sfx z t n2 q (k + 1))))) := Lib.hid (by rw [hwd]; exact hrd.out)
            refine wpR_region (Upd (fun k => k = g)) 9999 (by kernel_rfl) ?_
            (rw [← hwd]; replace hwd := Lib.hid hwd)
            refine wpR_take (i := 0) (v := ?_) (Upd.road _) (some 55) rfl (by kernel_rfl) (by kernel_rfl) (by kernel_rfl) (by kernel_rfl) (by kernel_rfl) (fun _ _ _ h => h) (by kernel_rfl) (fun w' hw' => ?_) ?_
            rotate_left
            · go_simp; with_reducible rfl
            simp only [Act.put, List.setIfInBounds_toArray, List.set_cons_zero, List.set_cons_succ]
            refine wpR_take (i := 1) (v := ?_) (Upd.road _) (some 56) rfl (by kernel_rfl) (by kernel_rfl) (by kernel_rfl) (by kernel_rfl) (by kernel_rfl) (fun _ _ _ h => h) (by kernel_rfl) (fun w' hw' => ?_) ?_
            rotate_left
            · go_simp; with_reducible rfl
            simp only [Act.put, List.setIfInBounds_toArray, List.set_cons_zero, List.set_cons_succ]
            refine wpR_take (i := 3) (v := ?_) (Upd.road _) (some 58) rfl (by kernel_rfl) (by kernel_rfl) (by kernel_rfl) (by kernel_rfl) (by kernel_rfl) (fun _ _ _ h => h) (by kernel_rfl) (fun w' hw' => ?_) ?_
            rotate_left
            · go_simp; with_reducible rfl
            simp only [Act.put, List.setIfInBounds_toArray, List.set_cons_zero, List.set_cons_succ]
            refine wpR_one 2 rfl (by kernel_rfl) (by kernel_rfl) (fun K hK => ?_)
            go_simp
            refine (get_any g _ (0 : Int) (by omega) (by omega) _ hrd.out (fun l e => by injection e with e; subst e; exact hlen.out)).mono ?_
            rw [hget.out]
            rintro e w5 ⟨rfl, hs1, hgr⟩
            refine hK _ _ (fun _ => Upd.of_grown hgr rfl) ?_
            clear hK K
            have hb5 := Lib.hid (below_grown hb4.out hb4.out.size hgr hgw)
            replace hrd := Lib.hid hs1
            clear hgr hs1
            try simp only [Act.put, List.setIfInBounds_toArray, List.set_cons_zero, List.set_cons_succ]
            refine wpR_take (i := 4) (v := ?_) (Upd.road _) (some 59) rfl (by kernel_rfl) (by kernel_rfl) (by kernel_rfl) (by kernel_rfl) (by kernel_rfl) (fun _ _ _ h => h) (by kernel_rfl) (fun w' hw' => ?_) ?_
            rotate_left
            · go_simp; with_reducible rfl
            simp only [Act.put, List.setIfInBounds_toArray, List.set_cons_zero, List.set_cons_succ]
            refine wpR_take (i := 5) (v := ?_) (Upd.road _) (some 60) rfl (by kernel_rfl) (by kernel_rfl) (by kernel_rfl) (by kernel_rfl) (by kernel_rfl) (fun _ _ _ h => h) (by kernel_rfl) (fun w' hw' => ?_) ?_
            rotate_left
            · go_simp; with_reducible rfl
            simp only [Act.put, List.setIfInBounds_toArray, List.set_cons_zero, List.set_cons_succ]
            refine wpR_take (i := 6) (v := ?_) (Upd.road _) (some 61) rfl (by kernel_rfl) (by kernel_rfl) (by kernel_rfl) (by kernel_rfl) (by kernel_rfl) (fun _ _ _ h => h) (by kernel_rfl) (fun w' hw' => ?_) ?_
            rotate_left
            · go_simp; with_reducible rfl
            simp only [Act.put, List.setIfInBounds_toArray, List.set_cons_zero, List.set_cons_succ]
            refine wpR_take (i := 7) (v := ?_) (Upd.road _) (some 62) rfl (by kernel_rfl) (by kernel_rfl) (by kernel_rfl) (by kernel_rfl) (by kernel_rfl) (fun _ _ _ h => h) (by kernel_rfl) (fun w' hw' => ?_) ?_
            rotate_left
            · go_simp; with_reducible rfl
            simp only [Act.put, List.setIfInBounds_toArray, List.set_cons_zero, List.set_cons_succ]
            refine wpR_take (i := 8) (v := ?_) (Upd.road _) (some 63) rfl (by kernel_rfl) (by kernel_rfl) (by kernel_rfl) (by kernel_rfl) (by kernel_rfl) (fun _ _ _ h => h) (by kernel_rfl) (fun w' hw' => ?_) ?_
            rotate_left
            · go_simp; with_reducible rfl
            simp only [Act.put, List.setIfInBounds_toArray, List.set_cons_zero, List.set_cons_succ]
            refine wpR_take (i := 9) (v := ?_) (Upd.road _) (some 64) rfl (by kernel_rfl) (by kernel_rfl) (by kernel_rfl) (by kernel_rfl) (by kernel_rfl) (fun _ _ _ h => h) (by kernel_rfl) (fun w' hw' => ?_) ?_
            rotate_left
            · go_simp; with_reducible rfl
            simp only [Act.put, List.setIfInBounds_toArray, List.set_cons_zero, List.set_cons_succ]
            refine wpR_take (i := 10) (v := ?_) (Upd.road _) (some 65) rfl (by kernel_rfl) (by kernel_rfl) (by kernel_rfl) (by kernel_rfl) (by kernel_rfl) (fun _ _ _ h => h) (by kernel_rfl) (fun w' hw' => ?_) ?_
            rotate_left
            · go_simp; with_reducible rfl
            simp only [Act.put, List.setIfInBounds_toArray, List.set_cons_zero, List.set_cons_succ]
            refine wpR_skip (i := 11) (Upd.road _) (some 66) rfl (by kernel_rfl) (by kernel_rfl) (by kernel_rfl) (by kernel_rfl) (by kernel_rfl) (fun _ _ _ h => h) (by kernel_rfl) ?_
            simp only [Act.put, List.setIfInBounds_toArray, List.set_cons_zero, List.set_cons_succ]
            refine wpR_skip (i := 12) (Upd.road _) (some 67) rfl (by kernel_rfl) (by kernel_rfl) (by kernel_rfl) (by kernel_rfl) (by kernel_rfl) (fun _ _ _ h => h) (by kernel_rfl) ?_
            simp only [Act.put, List.setIfInBounds_toArray, List.set_cons_zero, List.set_cons_succ]
            refine wpR_skip (i := 13) (Upd.road _) (some 68) rfl (by kernel_rfl) (by kernel_rfl) (by kernel_rfl) (by kernel_rfl) (by kernel_rfl) (fun _ _ _ h => h) (by kernel_rfl) ?_
            simp only [Act.put, List.setIfInBounds_toArray, List.set_cons_zero, List.set_cons_succ]
            refine wpR_skip (i := 14) (Upd.road _) (some 69) rfl (by kernel_rfl) (by kernel_rfl) (by kernel_rfl) (by kernel_rfl) (by kernel_rfl) (fun _ _ _ h => h) (by kernel_rfl) ?_
            simp only [Act.put, List.setIfInBounds_toArray, List.set_cons_zero, List.set_cons_succ]
            refine wpR_skip (i := 15) (Upd.road _) (some 70) rfl (by kernel_rfl) (by kernel_rfl) (by kernel_rfl) (by kernel_rfl) (by kernel_rfl) (fun _ _ _ h => h) (by kernel_rfl) ?_
            simp only [Act.put, List.setIfInBounds_toArray, List.set_cons_zero, List.set_cons_succ]
            refine wpR_skip (i := 16) (Upd.road _) (some 71) rfl (by kernel_rfl) (by kernel_rfl) (by kernel_rfl) (by kernel_rfl) (by kernel_rfl) (fun _ _ _ h => h) (by kernel_rfl) ?_
            simp only [Act.put, List.setIfInBounds_toArray, List.set_cons_zero, List.set_cons_succ]
            refine wpR_skip (i := 17) (Upd.road _) (some 72) rfl (by kernel_rfl) (by kernel_rfl) (by kernel_rfl) (by kernel_rfl) (by kernel_rfl) (fun _ _ _ h => h) (by kernel_rfl) ?_
            simp only [Act.put, List.setIfInBounds_toArray, List.set_cons_zero, List.set_cons_succ]
            refine wpR_skip (i := 18) (Upd.road _) (some 73) rfl (by kernel_rfl) (by kernel_rfl) (by kernel_rfl) (by kernel_rfl) (by kernel_rfl) (fun _ _ _ h => h) (by kernel_rfl) ?_
            simp only [Act.put, List.setIfInBounds_toArray, List.set_cons_zero, List.set_cons_succ]
            refine wpR_skip (i := 19) (Upd.road _) (some 74) rfl (by kernel_rfl) (by kernel_rfl) (by kernel_rfl) (by kernel_rfl) (by kernel_rfl) (fun _ _ _ h => h) (by kernel_rfl) ?_
            simp only [Act.put, List.setIfInBounds_toArray, List.set_cons_zero, List.set_cons_succ]
            refine wpR_skip (i := 20) (Upd.road _) (some 75) rfl (by kernel_rfl) (by kernel_rfl) (by kernel_rfl) (by kernel_rfl) (by kernel_rfl) (fun _ _ _ h => h) (by kernel_rfl) ?_
            simp only [Act.put, List.setIfInBounds_toArray, List.set_cons_zero, List.set_cons_succ]
            refine wpR_skip (i := 21) (Upd.road _) (some 76) rfl (by kernel_rfl) (by kernel_rfl) (by kernel_rfl) (by kernel_rfl) (by kernel_rfl) (fun _ _ _ h => h) (by kernel_rfl) ?_
            simp only [Act.put, List.setIfInBounds_toArray, List.set_cons_zero, List.set_cons_succ]
            refine wpR_skip (i := 22) (Upd.road _) (some 77) rfl (by kernel_rfl) (by kernel_rfl) (by kernel_rfl) (by kernel_rfl) (by kernel_rfl) (fun _ _ _ h => h) (by kernel_rfl) ?_
            simp only [Act.put, List.setIfInBounds_toArray, List.set_cons_zero, List.set_cons_succ]
            refine wpR_take (i := 23) (v := ?_) (Upd.road _) (some 78) rfl (by kernel_rfl) (by kernel_rfl) (by kernel_rfl) (by kernel_rfl) (by kernel_rfl) (fun _ _ _ h => h) (by kernel_rfl) (fun w' hw' => ?_) ?_
            rotate_left
            · go_simp; with_reducible rfl
            simp only [Act.put, List.setIfInBounds_toArray, List.set_cons_zero, List.set_cons_succ]
            refine wpR_take (i := 24) (v := ?_) (Upd.road _) (some 79) rfl (by kernel_rfl) (by kernel_rfl) (by kernel_rfl) (by kernel_rfl) (by kernel_rfl) (fun _ _ _ h => h) (by kernel_rfl) (fun w' hw' => ?_) ?_
            rotate_left
            · go_simp; with_reducible rfl
            simp only [Act.put, List.setIfInBounds_toArray, List.set_cons_zero, List.set_cons_succ]
            refine wpR_done (by kernel_rfl) ?_ _
            go_wp2_with fail
            go_roundw
            case rel => exact ⟨k + 1, q, by go_num, by have := hkj.out; omega, hrd, hb5⟩
            case measure => simp [intOf]; omega
          · have hneg2 : 0 ≤ z k := by omega
            have hget : Hid (rget (some (enc z0 ++ (sfx z t n2 q (k + 1)))) (z k : Int) = ((z k : Int), some (sfx z t n2 q (k + 1)))) := Lib.hid (by have h := rget_enc z0 hz3 (sfx z t n2 q (k + 1)); rw [show (z0 : Int) = z k from by omega] at h; exact h)
            have hwr : IntKind.i64.wrap ((k : Int) + 1) = (k : Int) + 1 := IntWalk.i64_in _ (by omega)
            replace hz0 := Lib.hid hz0
            clear hwr
            go_wp2_with fail
            obtain ⟨wd, hwd⟩ : ∃ wd, wd = wr.drew := ⟨_, rfl⟩
            have hb4 : Hid (Below w.heap.size w wd) := Lib.hid (by rw [hwd]; exact hb.out.drew)
            replace hrd : Hid (Rdr wd g (some (enc z0 ++ (sfx z t n2 q (k + 1))))) := Lib.hid (by rw [hwd]; exact hrd.out)
            refine wpR_region (Upd (fun k => k = g)) 9999 (by kernel_rfl) ?_
            (rw [← hwd]; replace hwd := Lib.hid hwd)
            refine wpR_take (i := 0) (v := ?_) (Upd.road _) (some 55) rfl (by kernel_rfl) (by kernel_rfl) (by kernel_rfl) (by kernel_rfl) (by kernel_rfl) (fun _ _ _ h => h) (by kernel_rfl) (fun w' hw' => ?_) ?_
            rotate_left
            · go_simp; with_reducible rfl
            simp only [Act.put, List.setIfInBounds_toArray, List.set_cons_zero, List.set_cons_succ]
            refine wpR_take (i := 1) (v := ?_) (Upd.road _) (some 56) rfl (by kernel_rfl) (by kernel_rfl) (by kernel_rfl) (by kernel_rfl) (by kernel_rfl) (fun _ _ _ h => h) (by kernel_rfl) (fun w' hw' => ?_) ?_
            rotate_left
            · go_simp; with_reducible rfl
            simp only [Act.put, List.setIfInBounds_toArray, List.set_cons_zero, List.set_cons_succ]
            refine wpR_take (i := 3) (v := ?_) (Upd.road _) (some 58) rfl (by kernel_rfl) (by kernel_rfl) (by kernel_rfl) (by kernel_rfl) (by kernel_rfl) (fun _ _ _ h => h) (by kernel_rfl) (fun w' hw' => ?_) ?_
            rotate_left
            · go_simp; with_reducible rfl
            simp only [Act.put, List.setIfInBounds_toArray, List.set_cons_zero, List.set_cons_succ]
            refine wpR_one 2 rfl (by kernel_rfl) (by kernel_rfl) (fun K hK => ?_)
            go_simp
            refine (get_any g _ (z k : Int) (by omega) (by omega) _ hrd.out (fun l e => by injection e with e; subst e; exact hlen.out)).mono ?_
            rw [hget.out]
            rintro e w5 ⟨rfl, hs1, hgr⟩
            refine hK _ _ (fun _ => Upd.of_grown hgr rfl) ?_
            clear hK K
            have hb5 := Lib.hid (below_grown hb4.out hb4.out.size hgr hgw)
            replace hrd := Lib.hid hs1
            clear hgr hs1
            try simp only [Act.put, List.setIfInBounds_toArray, List.set_cons_zero, List.set_cons_succ]
            refine wpR_take (i := 4) (v := ?_) (Upd.road _) (some 59) rfl (by kernel_rfl) (by kernel_rfl) (by kernel_rfl) (by kernel_rfl) (by kernel_rfl) (fun _ _ _ h => h) (by kernel_rfl) (fun w' hw' => ?_) ?_
            rotate_left
            · go_simp; with_reducible rfl
            simp only [Act.put, List.setIfInBounds_toArray, List.set_cons_zero, List.set_cons_succ]
            refine wpR_take (i := 5) (v := ?_) (Upd.road _) (some 60) rfl (by kernel_rfl) (by kernel_rfl) (by kernel_rfl) (by kernel_rfl) (by kernel_rfl) (fun _ _ _ h => h) (by kernel_rfl) (fun w' hw' => ?_) ?_
            rotate_left
            · go_simp; with_reducible rfl
            simp only [Act.put, List.setIfInBounds_toArray, List.set_cons_zero, List.set_cons_succ]
            refine wpR_take (i := 6) (v := ?_) (Upd.road _) (some 61) rfl (by kernel_rfl) (by kernel_rfl) (by kernel_rfl) (by kernel_rfl) (by kernel_rfl) (fun _ _ _ h => h) (by kernel_rfl) (fun w' hw' => ?_) ?_
            rotate_left
            · go_simp; with_reducible rfl
            simp only [Act.put, List.setIfInBounds_toArray, List.set_cons_zero, List.set_cons_succ]
            refine wpR_take (i := 7) (v := ?_) (Upd.road _) (some 62) rfl (by kernel_rfl) (by kernel_rfl) (by kernel_rfl) (by kernel_rfl) (by kernel_rfl) (fun _ _ _ h => h) (by kernel_rfl) (fun w' hw' => ?_) ?_
            rotate_left
            · go_simp; with_reducible rfl
            simp only [Act.put, List.setIfInBounds_toArray, List.set_cons_zero, List.set_cons_succ]
            refine wpR_take (i := 8) (v := ?_) (Upd.road _) (some 63) rfl (by kernel_rfl) (by kernel_rfl) (by kernel_rfl) (by kernel_rfl) (by kernel_rfl) (fun _ _ _ h => h) (by kernel_rfl) (fun w' hw' => ?_) ?_
            rotate_left
            · go_simp; with_reducible rfl
            simp only [Act.put, List.setIfInBounds_toArray, List.set_cons_zero, List.set_cons_succ]
            refine wpR_take (i := 9) (v := ?_) (Upd.road _) (some 64) rfl (by kernel_rfl) (by kernel_rfl) (by kernel_rfl) (by kernel_rfl) (by kernel_rfl) (fun _ _ _ h => h) (by kernel_rfl) (fun w' hw' => ?_) ?_
            rotate_left
            · go_simp; with_reducible rfl
            simp only [Act.put, List.setIfInBounds_toArray, List.set_cons_zero, List.set_cons_succ]
            refine wpR_take (i := 10) (v := ?_) (Upd.road _) (some 65) rfl (by kernel_rfl) (by kernel_rfl) (by kernel_rfl) (by kernel_rfl) (by kernel_rfl) (fun _ _ _ h => h) (by kernel_rfl) (fun w' hw' => ?_) ?_
            rotate_left
            · go_simp; with_reducible rfl
            simp only [Act.put, List.setIfInBounds_toArray, List.set_cons_zero, List.set_cons_succ]
            refine wpR_skip (i := 11) (Upd.road _) (some 66) rfl (by kernel_rfl) (by kernel_rfl) (by kernel_rfl) (by kernel_rfl) (by kernel_rfl) (fun _ _ _ h => h) (by kernel_rfl) ?_
            simp only [Act.put, List.setIfInBounds_toArray, List.set_cons_zero, List.set_cons_succ]
            refine wpR_skip (i := 12) (Upd.road _) (some 67) rfl (by kernel_rfl) (by kernel_rfl) (by kernel_rfl) (by kernel_rfl) (by kernel_rfl) (fun _ _ _ h => h) (by kernel_rfl) ?_
            simp only [Act.put, List.setIfInBounds_toArray, List.set_cons_zero, List.set_cons_succ]
            refine wpR_skip (i := 13) (Upd.road _) (some 68) rfl (by kernel_rfl) (by kernel_rfl) (by kernel_rfl) (by kernel_rfl) (by kernel_rfl) (fun _ _ _ h => h) (by kernel_rfl) ?_
            simp only [Act.put, List.setIfInBounds_toArray, List.set_cons_zero, List.set_cons_succ]
            refine wpR_skip (i := 14) (Upd.road _) (some 69) rfl (by kernel_rfl) (by kernel_rfl) (by kernel_rfl) (by kernel_rfl) (by kernel_rfl) (fun _ _ _ h => h) (by kernel_rfl) ?_
            simp only [Act.put, List.setIfInBounds_toArray, List.set_cons_zero, List.set_cons_succ]
            refine wpR_skip (i := 15) (Upd.road _) (some 70) rfl (by kernel_rfl) (by kernel_rfl) (by kernel_rfl) (by kernel_rfl) (by kernel_rfl) (fun _ _ _ h => h) (by kernel_rfl) ?_
            simp only [Act.put, List.setIfInBounds_toArray, List.set_cons_zero, List.set_cons_succ]
            refine wpR_skip (i := 16) (Upd.road _) (some 71) rfl (by kernel_rfl) (by kernel_rfl) (by kernel_rfl) (by kernel_rfl) (by kernel_rfl) (fun _ _ _ h => h) (by kernel_rfl) ?_
            simp only [Act.put, List.setIfInBounds_toArray, List.set_cons_zero, List.set_cons_succ]
            refine wpR_skip (i := 17) (Upd.road _) (some 72) rfl (by kernel_rfl) (by kernel_rfl) (by kernel_rfl) (by kernel_rfl) (by kernel_rfl) (fun _ _ _ h => h) (by kernel_rfl) ?_
            simp only [Act.put, List.setIfInBounds_toArray, List.set_cons_zero, List.set_cons_succ]
            refine wpR_skip (i := 18) (Upd.road _) (some 73) rfl (by kernel_rfl) (by kernel_rfl) (by kernel_rfl) (by kernel_rfl) (by kernel_rfl) (fun _ _ _ h => h) (by kernel_rfl) ?_
            simp only [Act.put, List.setIfInBounds_toArray, List.set_cons_zero, List.set_cons_succ]
            refine wpR_skip (i := 19) (Upd.road _) (some 74) rfl (by kernel_rfl) (by kernel_rfl) (by kernel_rfl) (by kernel_rfl) (by kernel_rfl) (fun _ _ _ h => h) (by kernel_rfl) ?_
            simp only [Act.put, List.setIfInBounds_toArray, List.set_cons_zero, List.set_cons_succ]
            refine wpR_skip (i := 20) (Upd.road _) (some 75) rfl (by kernel_rfl) (by kernel_rfl) (by kernel_rfl) (by kernel_rfl) (by kernel_rfl) (fun _ _ _ h => h) (by kernel_rfl) ?_
            simp only [Act.put, List.setIfInBounds_toArray, List.set_cons_zero, List.set_cons_succ]
            refine wpR_skip (i := 21) (Upd.road _) (some 76) rfl (by kernel_rfl) (by kernel_rfl) (by kernel_rfl) (by kernel_rfl) (by kernel_rfl) (fun _ _ _ h => h) (by kernel_rfl) ?_
            simp only [Act.put, List.setIfInBounds_toArray, List.set_cons_zero, List.set_cons_succ]
            refine wpR_skip (i := 22) (Upd.road _) (some 77) rfl (by kernel_rfl) (by kernel_rfl) (by kernel_rfl) (by kernel_rfl) (by kernel_rfl) (fun _ _ _ h => h) (by kernel_rfl) ?_
            simp only [Act.put, List.setIfInBounds_toArray, List.set_cons_zero, List.set_cons_succ]
            refine wpR_take (i := 23) (v := ?_) (Upd.road _) (some 78) rfl (by kernel_rfl) (by kernel_rfl) (by kernel_rfl) (by kernel_rfl) (by kernel_rfl) (fun _ _ _ h => h) (by kernel_rfl) (fun w' hw' => ?_) ?_
            rotate_left
            · go_simp; with_reducible rfl
            simp only [Act.put, List.setIfInBounds_toArray, List.set_cons_zero, List.set_cons_succ]
            refine wpR_take (i := 24) (v := ?_) (Upd.road _) (some 79) rfl (by kernel_rfl) (by kernel_rfl) (by kernel_rfl) (by kernel_rfl) (by kernel_rfl) (fun _ _ _ h => h) (by kernel_rfl) (fun w' hw' => ?_) ?_
            rotate_left
            · go_simp; with_reducible rfl
            simp only [Act.put, List.setIfInBounds_toArray, List.set_cons_zero, List.set_cons_succ]
            refine wpR_done (by kernel_rfl) ?_ _
            go_wp2_with fail
            go_roundw
            case rel => exact ⟨k + 1, q, by go_num, by have := hkj.out; omega, hrd, hb5⟩
            case measure => simp [intOf]; omega
      · obtain rfl : k = K := by have := hkj.out; omega
        obtain rfl : j = 0 := by have := hkj.out; omega
        have hnil : sfx z t n2 0 k = [] := rfl
        rw [hnil] at hrd
        by_cases h40 : n ≤ 40
        · have hkn : ¬ (k < n) := by have := hK.out; omega
          go_wp2_with fail
          refine (awake_any _).mono ?_
          rintro e w9 ⟨rfl, hb9⟩
          replace hrd := Lib.hid (hrd.out.below' hb9)
          replace hb9 := Lib.hid (hb.out.trans (hb9.mono hb.out.size))
          go_wp2_with fail
          refine (end_any g _ _ hrd.out).mono ?_
          rintro e w10 ⟨rfl, rfl⟩
          go_wp2_with fail
          go_ret
          exact ⟨rfl, hb9.out⟩
        · have hkn : k < n := by have := hK.out; omega
          have hk40 : ¬ (k < 40) := by have := hK.out; omega
          go_wp2_with fail
          refine (awake_any _).mono ?_
          rintro e w9 ⟨rfl, hb9⟩
          replace hrd := Lib.hid (hrd.out.below' hb9)
          replace hb9 := Lib.hid (hb.out.trans (hb9.mono hb.out.size))
          go_wp2_with fail
          refine (end_any g _ _ hrd.out).mono ?_
          rintro e w10 ⟨rfl, rfl⟩
          go_wp2_with fail
          go_ret
          exact ⟨rfl, hb9.out⟩
end Go.Proofs.Yticdkmnjolkacab
