/- The laws of word: WordOwn. -/
import Derived.Test.YtpenmeddbpgkmaaWordLaw
import Derived.Test.YtpenmeddbpgkmaaWordNew
import Derived.Deep.DeepCutAuto
import Derived.Test.YtpenmeddbpgkmaaRegRd
import Derived.Deep.AppendLies
namespace Go.Proofs.Ytpenmeddbpgkmaa
set_option linter.unusedVariables false
open Go Go.RowKit
theorem Rd.ne_rdr {w : World} {g B : Nat} {st : RS} {A : Option Addr} {l : List UInt8} (h : Rdr w g st) (hr : Rd w B A l) : ∀ ad, A = some ad → 0 < l.length → ¬ (ad.block = g) := fun ad e hn => by
  obtain ⟨ad', e', -, hc⟩ := hr.at_ hn
  rw [e] at e'
  injection e' with e'
  subst e'
  have := not_int_at h hc
  rwa [block_of_add] at this
theorem Rd.setBelow {w : World} {B lo : Nat} {A : Option Addr} {l : List UInt8} (h : Rd w B A l) (h5 : ∀ ad, A = some ad → lo < ad.block) (p : Addr) (hp : p.block = lo) (u : Value) : Rd (w.setCell p u) B A l := by
  refine ⟨h.1, fun hn => ?_⟩
  obtain ⟨ad, rfl, hb, hc⟩ := h.2 hn
  refine ⟨ad, rfl, hb, fun j x hx => ?_⟩
  have h6 := h5 ad rfl
  rw [World.cell?_setCell_other w _ _ _ (fun e => by have := congrArg Addr.block e; rw [block_of_add] at this; omega)]
  exact hc j x hx
set_option maxHeartbeats 4000000 in
set_option maxRecDepth 10000 in
theorem wordOwn_walk (A : Option Addr) (k c : Nat) (b : List UInt8) (hk : b.length = k) (hkc : k ≤ c) (m n : Int) (hm : -9223372036854775808 ≤ m ∧ m ≤ 9223372036854775807) (hn : -9223372036854775808 ≤ n ∧ n ≤ 9223372036854775807) (K : Nat) (hK : K ≤ 50) (hKk : K ≤ k) (hcase : (50 < k ∧ K = 50) ∨ (k ≤ 50 ∧ K = k)) (w : World) (hr : Rd w w.heap.size A b) :
    Calls Try.prog 16 #[.slice A k c, .int .i64 m, .int .i64 n] w fun e w' => e = .returned (.bool true) ∧ Below w.heap.size w w' := by
  have hx : ∃ x, b.take K = x := ⟨_, rfl⟩
  obtain ⟨x, hx⟩ := hx
  have hrx : Rd w w.heap.size A x := by rw [← hx]; exact hr.take K (by omega)
  have hxl : x.length = K := by rw [← hx, List.length_take]; omega
  replace hr := Lib.hid hr
  replace hrx := Lib.hid hrx
  replace hxl := Lib.hid hxl
  replace hx := Lib.hid hx
  replace hcase := Lib.hid hcase
  go_enter Try.func16, Try.ntmps16
  go_upto_if 18 with (fail)
  go_cut [7] (fun v wx => v = .int .i64 K ∧ w = wx)
  case first =>
    rcases hcase.out with ⟨h1, rfl⟩ | ⟨h1, rfl⟩
    all_goals
      go_wp2
      go_meet
      exact ⟨rfl, rfl⟩
  case rest =>
    obtain ⟨rfl, rfl⟩ := hcut
    clear hcase
    have hKi : (K : Int) ≤ (c : Int) := by omega
    obtain ⟨N, hN⟩ : ∃ N, N = K + 40 := ⟨_, rfl⟩
    have hw : IntKind.i64.wrap ((K : Int) + 40) = (N : Int) := by rw [IntKind.wrap_i64]; omega
    obtain ⟨i0, hi, hz0, hz1, hz2⟩ := info_parts info_u8
    obtain ⟨wm, hrun, hown, hgm⟩ := run_make_own (P := Try.prog) w.drew w.heap.size 22 5 i0 _ 1 Try.underlying22 hi hz0 hz1 .i64 .i64 N (by rw [hz2]; omega) (by simp only [maxLen]; omega) (Nat.le_refl _)
    have hown : OB wm w.heap.size (.slice (some ⟨w.heap.size, 0, none⟩) 0 N) [] := hown
    have hbm : Below w.heap.size w wm := (Below.refl w.heap.size w).drew.grown hgm (Nat.le_refl _) (fun _ hk => by cases hk)
    have hrm := Lib.hid (hrx.out.below hbm)
    replace hown := Lib.hid hown
    clear hi hz0 hz1 hz2 hgm hN
    go_upto_region 4 with (fail)
    go_region_law (refine step_append rfl (.tmp 21) (.tmp 24) rfl w.heap.size (.slice (some ⟨w.heap.size, 0, none⟩) 0 N) [] rfl hown.out w.heap.size A c x (by rw [hxl.out]; rfl) hrm.out (by simp; rw [hxl.out]; omega) hbm.size ?_; intro v1 w1 hown1 hg1 _)
    have hb1 : Below w.heap.size w w1 := below_app hown.out hbm hbm.size hg1
    rw [List.nil_append] at hown1
    obtain ⟨Ax, cx, rfl, hcx, -, hRx, -⟩ := hown1.form
    obtain ⟨l1, hl1⟩ : ∃ l1, x ++ enc m.toNat = l1 := ⟨_, rfl⟩
    obtain ⟨l2, hl2⟩ : ∃ l2, x ++ enc n.toNat = l2 := ⟨_, rfl⟩
    have hlen1 : K + 1 ≤ l1.length ∧ l1.length ≤ K + 9 := by
      rw [← hl1, List.length_append, hxl.out]
      have := enc_length m.toNat (by omega)
      omega
    have hlen2 : K + 1 ≤ l2.length ∧ l2.length ≤ K + 9 := by
      rw [← hl2, List.length_append, hxl.out]
      have := enc_length n.toNat (by omega)
      omega
    replace hlen1 := Lib.hid hlen1
    replace hlen2 := Lib.hid hlen2
    replace hl1 := Lib.hid hl1
    replace hl2 := Lib.hid hl2
    replace hb1 := Lib.hid hb1
    replace hRx := Lib.hid hRx
    clear hown1 hg1 hown hrun hrm hbm
    go_wp2_with fail
    refine (put_any Ax x.length cx x rfl m hm.1 hm.2 (by rw [hxl.out]; omega) _ hRx.out).mono ?_
    rw [hl1.out]
    rintro e w2 ⟨v2, rfl, ho2, hb2⟩
    obtain ⟨A2, c2, rfl, hc2, -, hR2, hup2⟩ := ho2.form
    have hb2' := Lib.hid (hb1.out.trans (hb2.mono hb1.out.size))
    obtain ⟨g2, rfl, hg2lt⟩ : ∃ g2, A2 = some ⟨g2, 0, none⟩ ∧ g2 < w2.heap.size := by
      obtain ⟨g2, e, -, hlt, -⟩ := OB.store ho2 (k := 0) (by have := hlen1.out; omega)
      exact ⟨g2, e, hlt⟩
    have hRx1 := Lib.hid (hRx.out.below hb2)
    have hz12 := hb2.size
    replace hRx := Lib.hid (hRx.out.up hb2)
    replace ho2 := Lib.hid ho2
    clear hb2
    go_wp2_with fail
    refine (put_any Ax x.length cx x rfl n hn.1 hn.2 (by rw [hxl.out]; omega) _ hRx.out).mono ?_
    rw [hl2.out]
    rintro e w3 ⟨v3, rfl, ho3, hb3⟩
    obtain ⟨A3, c3, rfl, hc3, -, hR3, hup3⟩ := ho3.form
    have hb3' := Lib.hid (hb2'.out.trans (hb3.mono hb2'.out.size))
    replace hRx1 := Lib.hid (hRx1.out.below (hb3.mono hz12))
    have hz23 := hb3.size
    replace hRx := Lib.hid (hRx.out.up hb3)
    replace ho2 := Lib.hid (ho2.out.below hb3)
    replace hR3 := Lib.hid hR3
    clear hR2 ho3 hb3
    go_wp2_with fail
    refine (put_any Ax x.length cx x rfl m hm.1 hm.2 (by rw [hxl.out]; omega) _ hRx.out).mono ?_
    rw [hl1.out]
    rintro e w4 ⟨v4, rfl, ho4, hb4⟩
    obtain ⟨A4, c4, rfl, hc4, -, hR4, -⟩ := ho4.form
    have hb4' := Lib.hid (hb3'.out.trans (hb4.mono hb3'.out.size))
    replace hRx1 := Lib.hid (hRx1.out.below (hb4.mono (Nat.le_trans hz12 hz23)))
    have hz34 := hb4.size
    replace hRx := Lib.hid (hRx.out.up hb4)
    replace ho2 := Lib.hid (ho2.out.below hb4)
    replace hR3 := Lib.hid (hR3.out.up hb4)
    have hR2 := (OB.form ho2.out)
    clear ho4 hb4
    have hcv1 : (convert 22 9 (.slice (some ⟨g2, 0, none⟩) l1.length c2)).run Try.prog w4 = .ok (.string (bs l1)) w4 := run_str_at c2 (OB.rd ho2.out).1 rfl
    have hcv4 : (convert 22 9 (.slice A4 l1.length c4)).run Try.prog w4 = .ok (.string (bs l1)) w4 := run_str_at c4 hR4 rfl
    have hd1 : decide ((l1.length : Int) < (K : Int) + 1) = false := decide_eq_false (by have := hlen1.out; omega)
    have hd2 : decide ((l2.length : Int) < (K : Int) + 1) = false := decide_eq_false (by have := hlen2.out; omega)
    have hKl : (K : Int) ≤ (l1.length : Int) := by have := hlen1.out; omega
    have hcK : ¬ c2 = K := by have := hlen1.out; omega
    clear hR2
    go_wp2_with fail
    have hcut : Rd w4 w4.heap.size (some (⟨g2, K, none⟩ : Addr)) (enc m.toNat) := by
      have h := (OB.rd ho2.out).1.cutAt (k := K) (by have := hlen1.out; omega)
      rw [← hl1.out, List.drop_left' hxl.out] at h
      have e : (⟨g2, 0, none⟩ : Addr).add K = ⟨g2, K, none⟩ := by unfold Addr.add; split <;> simp_all
      simp only [Option.map_some, e] at h
      exact h
    have hel : (enc m.toNat).length = l1.length - K := by
      rw [← hl1.out, List.length_append, hxl.out]
      omega
    refine (new_in _ (l1.length - K) (c2 - K) (enc m.toNat) hel (by have := hlen1.out; omega) _ hcut).mono ?_
    rintro e w5 ⟨g, rfl, hg, hri, hb5⟩
    have hz4 := hb4'.out.size
    have hb5' := Lib.hid (hb4'.out.trans (hb5.mono hz4))
    have hz1 := hb1.out.size
    have hx5 : Hid (Rd w5 w1.heap.size Ax x) := Lib.hid (hRx1.out.below (hb5.mono (by omega)))
    have ho5 := Lib.hid (ho2.out.below hb5)
    have hR5 := Lib.hid (hR3.out.up hb5)
    replace hri := Lib.hid hri
    clear hcv1 hcv4 hd1 hd2 hcK hcut hb5 hRx1 hRx hR3 ho2 hR4
    have hb3g : ∀ ad, A3 = some ad → g2 < ad.block := fun ad e => by have := hup3 ad e; omega
    replace hb3g := Lib.hid hb3g
    have hg24 : g2 < w4.heap.size := by omega
    have hlb : l1.length ≤ 59 := by have := hlen1.out; omega
    have hlb2 : 1 ≤ l1.length - K ∧ K ≤ l1.length := by have := hlen1.out; omega
    clear hup3 hup2 hg2lt
    go_wp2_with fail
    go_loopw [13] (fun i wr => ∃ (j : Nat) (l' : List UInt8), i = .int .i64 j ∧ j ≤ l1.length ∧ l'.length = l1.length ∧ Hid (OB wr w1.heap.size (.slice (some ⟨g2, 0, none⟩) l1.length c2) l') ∧ Hid (Rd wr w1.heap.size Ax x) ∧ Hid (Rd wr wr.heap.size A3 l2) ∧ Hid (RdrIn wr w4.heap.size g (enc m.toNat)) ∧ Hid (Below w.heap.size w wr)) (fun i _ => l1.length - (intOf i).toNat)
    case atStart => exact ⟨0, l1, rfl, Nat.zero_le _, rfl, ho5, hx5, hR5, hri, hb5'⟩
    case round =>
      obtain ⟨j, l', rfl, hjn, hll, ho, hx6, hR6, hri6, hb6⟩ := hrel
      clear hri ho5 hx5 hR5
      by_cases hlt : j < l1.length
      · obtain ⟨gg, hgg, hg1, hg2', hcell, hfr, hst⟩ := OB.store ho.out (k := j) (by omega)
        injection hgg with hgg
        injection hgg with hgg
        subst hgg
        have hst := Lib.hid (hst (l'[j] ^^^ 255))
        generalize l'[j] = z at *
        replace hll := Lib.hid hll
        go_wp2
        go_roundw
        case rel =>
          refine ⟨j + 1, l'.set j (z ^^^ 255), by go_num, by omega, by rw [List.length_set]; exact hll.out, hst, Lib.hid (Reads.setCell hx6.out hg1 _), Lib.hid ?_, Lib.hid (hri6.out.setCell hg24 hg _), Lib.hid (hb6.out.setCell (by show w.heap.size ≤ g2; omega) _)⟩
          have h := hR6.out.setBelow hb3g.out ⟨g2, j, none⟩ rfl (.int .u8 (U (z ^^^ 255)))
          rw [World.size_setCell]
          exact h
        case measure => simp [intOf]; omega
      · obtain rfl : j = l1.length := by omega
        replace hll := Lib.hid hll
        clear ho hlt
        have hrd := Lib.hid hri6.out.rdr
        clear hri6
        have hgw : w.heap.size ≤ g := by omega
        have hx7 : Hid (Rd wr wr.heap.size Ax x) := Lib.hid (hx6.out.more (by have := hb6.out.size; have := hrd.out.lt; omega))
        have hbt : Hid (Rd wr wr.heap.size A x) := Lib.hid (hrx.out.up hb6.out)
        clear hx6
        have hget : Hid (rget (some (enc m.toNat)) (m.toNat : Int) = ((m.toNat : Int), some [])) := by
          have h := lead_enc m.toNat (by omega) []
          rw [List.append_nil] at h
          refine Lib.hid ?_
          unfold rget
          simp only
          rw [h]
          simp only
          rw [if_pos (by omega), List.drop_length]
        have hlm : Hid ((enc m.toNat).length ≤ 140737488355328) := Lib.hid (by rw [hel]; omega)
        have hxb : Hid (x.length ≤ 1000) := Lib.hid (by rw [hxl.out]; omega)
        obtain ⟨z, hz, hzm, hz63⟩ : ∃ z : Int, (m < 0 ∧ z = 0 ∨ ¬ m < 0 ∧ z = m) ∧ (m.toNat : Int) = z ∧ z ≤ 9223372036854775807 := ⟨m.toNat, by omega, rfl, by omega⟩
        rw [hzm] at hget
        have hzz : 0 ≤ z := by omega
        clear hzm
        replace hxl := Lib.hid hxl.out
        replace hz := Lib.hid hz
        go_upto_if 72 with (fail)
        go_cut [14] (fun v wx => v = .int .i64 z ∧ wr = wx)
        case first =>
          by_cases hm0 : m < 0
          · obtain rfl : z = 0 := by have := hz.out; omega
            go_wp2
            go_meet
            exact ⟨rfl, rfl⟩
          · obtain rfl : z = m := by have := hz.out; omega
            go_wp2
            go_meet
            exact ⟨rfl, rfl⟩
        case rest =>
          obtain ⟨rfl, rfl⟩ := hcut
          replace hx7 : Hid (Rd wr.drew wr.drew.heap.size Ax x) := hx7
          replace hbt : Hid (Rd wr.drew wr.drew.heap.size A x) := hbt
          replace hR6 : Hid (Rd wr.drew wr.drew.heap.size A3 l2) := hR6
          replace hrd : Hid (Rdr wr.drew g (some (enc m.toNat))) := hrd
          replace hb6 : Hid (Below w.heap.size w wr.drew) := Lib.hid hb6.out.drew
          have hnx := Lib.hid (Rd.ne_rdr hrd.out hx7.out)
          have hnb := Lib.hid (Rd.ne_rdr hrd.out hbt.out)
          have hn6 := Lib.hid (Rd.ne_rdr hrd.out hR6.out)
          go_upto_region 17 with (fail)
          refine wpR_region (Upd (· = g)) (by kernel_rfl) ?_
          refine wpR_one 0 rfl (by kernel_rfl) (by kernel_rfl) (fun K hK => ?_)
          go_simp
          refine (awake_any _).mono ?_
          rintro e wa ⟨rfl, hba⟩
          refine hK _ _ (Upd.of_below hba) ?_
          clear hK K
          replace hb6 := Lib.hid (hb6.out.trans (hba.mono hb6.out.size)); replace hx7 := Lib.hid (hx7.out.up hba); replace hbt := Lib.hid (hbt.out.up hba); replace hR6 := Lib.hid (hR6.out.up hba); replace hrd := Lib.hid (hrd.out.below' hba)
          clear hba
          try simp only [Act.put, List.setIfInBounds_toArray, List.set_cons_zero, List.set_cons_succ]
          refine wpR_take (i := 1) (v := ?_) (Upd.road _) rfl (by kernel_rfl) (by kernel_rfl) (by kernel_rfl) (fun _ _ _ h => h) (by kernel_rfl) (fun w' hw' => ?_) ?_
          rotate_left
          · go_simp; with_reducible rfl
          simp only [Act.put, List.setIfInBounds_toArray, List.set_cons_zero, List.set_cons_succ]
          refine wpR_take (i := 2) (v := ?_) (Upd.road _) rfl (by kernel_rfl) (by kernel_rfl) (by kernel_rfl) (fun _ _ _ h => h) (by kernel_rfl) (fun w' hw' => ?_) ?_
          rotate_left
          · go_simp; with_reducible rfl
          simp only [Act.put, List.setIfInBounds_toArray, List.set_cons_zero, List.set_cons_succ]
          refine wpR_take (i := 3) (v := ?_) (Upd.road _) rfl (by kernel_rfl) (by kernel_rfl) (by kernel_rfl) (fun _ _ _ h => h) (by kernel_rfl) (fun w' hw' => ?_) ?_
          rotate_left
          · go_simp; with_reducible rfl
          simp only [Act.put, List.setIfInBounds_toArray, List.set_cons_zero, List.set_cons_succ]
          refine wpR_take (i := 6) (v := ?_) (Upd.road _) rfl (by kernel_rfl) (by kernel_rfl) (by kernel_rfl) (fun _ _ _ h => h) (by kernel_rfl) (fun w' hw' => ?_) ?_
          rotate_left
          · go_simp; with_reducible rfl
          simp only [Act.put, List.setIfInBounds_toArray, List.set_cons_zero, List.set_cons_succ]
          refine wpR_take (i := 7) (v := ?_) (Upd.road _) rfl (by kernel_rfl) (by kernel_rfl) (by kernel_rfl) (fun _ _ _ h => h) (by kernel_rfl) (fun w' hw' => ?_) ?_
          rotate_left
          · have hcv := run_str_at (n := l2.length) c3 (hR6.out.upd hn6.out hw') rfl; go_simp; with_reducible rfl
          simp only [Act.put, List.setIfInBounds_toArray, List.set_cons_zero, List.set_cons_succ]
          refine wpR_one 4 rfl (by kernel_rfl) (by kernel_rfl) (fun K hK => ?_)
          go_simp
          refine (put_any Ax x.length cx x rfl n hn.1 hn.2 (by have := hxb.out; omega) _ hx7.out).mono ?_
          rw [hl2.out]
          rintro e wa ⟨vp, rfl, hop, hba⟩
          obtain ⟨Ap, cp, rfl, -, -, hRp, hpup⟩ := hop.form
          have hnp : Hid (∀ ad, Ap = some ad → 0 < l2.length → ¬ (ad.block = g)) := Lib.hid (fun ad e _ => by have := hpup ad e; have := hrd.out.lt; omega)
          clear hop hpup
          replace hRp := Lib.hid hRp
          refine hK _ _ (Upd.of_below hba) ?_
          clear hK K
          replace hb6 := Lib.hid (hb6.out.trans (hba.mono hb6.out.size)); replace hx7 := Lib.hid (hx7.out.up hba); replace hbt := Lib.hid (hbt.out.up hba); replace hR6 := Lib.hid (hR6.out.up hba); replace hrd := Lib.hid (hrd.out.below' hba)
          clear hba
          try simp only [Act.put, List.setIfInBounds_toArray, List.set_cons_zero, List.set_cons_succ]
          refine wpR_take (i := 5) (v := ?_) (Upd.road _) rfl (by kernel_rfl) (by kernel_rfl) (by kernel_rfl) (fun _ _ _ h => h) (by kernel_rfl) (fun w' hw' => ?_) ?_
          rotate_left
          · have hcv := run_str_at (n := l2.length) cp (hRp.out.upd hnp.out hw') rfl; go_simp; with_reducible rfl
          simp only [Act.put, List.setIfInBounds_toArray, List.set_cons_zero, List.set_cons_succ]
          refine wpR_take (i := 8) (v := ?_) (Upd.road _) rfl (by kernel_rfl) (by kernel_rfl) (by kernel_rfl) (fun _ _ _ h => h) (by kernel_rfl) (fun w' hw' => ?_) ?_
          rotate_left
          · go_simp; with_reducible rfl
          simp only [Act.put, List.setIfInBounds_toArray, List.set_cons_zero, List.set_cons_succ]
          refine wpR_take (i := 9) (v := ?_) (Upd.road _) rfl (by kernel_rfl) (by kernel_rfl) (by kernel_rfl) (fun _ _ _ h => h) (by kernel_rfl) (fun w' hw' => ?_) ?_
          rotate_left
          · go_simp; with_reducible rfl
          simp only [Act.put, List.setIfInBounds_toArray, List.set_cons_zero, List.set_cons_succ]
          refine wpR_take (i := 10) (v := ?_) (Upd.road _) rfl (by kernel_rfl) (by kernel_rfl) (by kernel_rfl) (fun _ _ _ h => h) (by kernel_rfl) (fun w' hw' => ?_) ?_
          rotate_left
          · go_simp; with_reducible rfl
          simp only [Act.put, List.setIfInBounds_toArray, List.set_cons_zero, List.set_cons_succ]
          refine wpR_take (i := 11) (v := ?_) (Upd.road _) rfl (by kernel_rfl) (by kernel_rfl) (by kernel_rfl) (fun _ _ _ h => h) (by kernel_rfl) (fun w' hw' => ?_) ?_
          rotate_left
          · go_simp; with_reducible rfl
          simp only [Act.put, List.setIfInBounds_toArray, List.set_cons_zero, List.set_cons_succ]
          refine wpR_take (i := 12) (v := ?_) (Upd.road _) rfl (by kernel_rfl) (by kernel_rfl) (by kernel_rfl) (fun _ _ _ h => h) (by kernel_rfl) (fun w' hw' => ?_) ?_
          rotate_left
          · go_simp; with_reducible rfl
          simp only [Act.put, List.setIfInBounds_toArray, List.set_cons_zero, List.set_cons_succ]
          refine wpR_take (i := 14) (v := ?_) (Upd.road _) rfl (by kernel_rfl) (by kernel_rfl) (by kernel_rfl) (fun _ _ _ h => h) (by kernel_rfl) (fun w' hw' => ?_) ?_
          rotate_left
          · go_simp; with_reducible rfl
          simp only [Act.put, List.setIfInBounds_toArray, List.set_cons_zero, List.set_cons_succ]
          refine wpR_one 13 rfl (by kernel_rfl) (by kernel_rfl) (fun K hK => ?_)
          go_simp
          refine (get_any g _ _ (by omega) (by omega) _ hrd.out (fun l e => by injection e with e; subst e; exact hlm.out)).mono ?_
          rw [hget.out]
          rintro e wa ⟨rfl, hs1, hgr⟩
          refine hK _ _ (Upd.of_grown (S := (· = g)) hgr rfl) ?_
          clear hK K
          replace hx7 := Lib.hid (hx7.out.upd hnx.out (Upd.of_grown (S := (· = g)) hgr rfl))
          replace hbt := Lib.hid (hbt.out.upd hnb.out (Upd.of_grown (S := (· = g)) hgr rfl))
          replace hb6 := Lib.hid (below_grown hb6.out hb6.out.size hgr hgw)
          replace hrd := Lib.hid hs1
          clear hgr hs1 hR6 hRp
          try simp only [Act.put, List.setIfInBounds_toArray, List.set_cons_zero, List.set_cons_succ]
          refine wpR_take (i := 15) (v := ?_) (Upd.road _) rfl (by kernel_rfl) (by kernel_rfl) (by kernel_rfl) (fun _ _ _ h => h) (by kernel_rfl) (fun w' hw' => ?_) ?_
          rotate_left
          · go_simp; with_reducible rfl
          simp only [Act.put, List.setIfInBounds_toArray, List.set_cons_zero, List.set_cons_succ]
          refine wpR_take (i := 16) (v := ?_) (Upd.road _) rfl (by kernel_rfl) (by kernel_rfl) (by kernel_rfl) (fun _ _ _ h => h) (by kernel_rfl) (fun w' hw' => ?_) ?_
          rotate_left
          · go_simp; with_reducible rfl
          simp only [Act.put, List.setIfInBounds_toArray, List.set_cons_zero, List.set_cons_succ]
          refine wpR_take (i := 17) (v := ?_) (Upd.road _) rfl (by kernel_rfl) (by kernel_rfl) (by kernel_rfl) (fun _ _ _ h => h) (by kernel_rfl) (fun w' hw' => ?_) ?_
          rotate_left
          · go_simp; with_reducible rfl
          simp only [Act.put, List.setIfInBounds_toArray, List.set_cons_zero, List.set_cons_succ]
          refine wpR_take (i := 18) (v := ?_) (Upd.road _) rfl (by kernel_rfl) (by kernel_rfl) (by kernel_rfl) (fun _ _ _ h => h) (by kernel_rfl) (fun w' hw' => ?_) ?_
          rotate_left
          · go_simp; with_reducible rfl
          simp only [Act.put, List.setIfInBounds_toArray, List.set_cons_zero, List.set_cons_succ]
          refine wpR_one 19 rfl (by kernel_rfl) (by kernel_rfl) (fun K hK => ?_)
          go_simp
          refine (end_any g _ _ hrd.out).mono ?_
          rintro e wa ⟨rfl, rfl⟩
          refine hK _ _ (Upd.refl _ _) ?_
          clear hK K
          try simp only [Act.put, List.setIfInBounds_toArray, List.set_cons_zero, List.set_cons_succ]
          refine wpR_take (i := 20) (v := ?_) (Upd.road _) rfl (by kernel_rfl) (by kernel_rfl) (by kernel_rfl) (fun _ _ _ h => h) (by kernel_rfl) (fun w' hw' => ?_) ?_
          rotate_left
          · go_simp; with_reducible rfl
          simp only [Act.put, List.setIfInBounds_toArray, List.set_cons_zero, List.set_cons_succ]
          refine wpR_take (i := 21) (v := ?_) (Upd.road _) rfl (by kernel_rfl) (by kernel_rfl) (by kernel_rfl) (fun _ _ _ h => h) (by kernel_rfl) (fun w' hw' => ?_) ?_
          rotate_left
          · go_simp; with_reducible rfl
          simp only [Act.put, List.setIfInBounds_toArray, List.set_cons_zero, List.set_cons_succ]
          refine wpR_take (i := 22) (v := ?_) (Upd.road _) rfl (by kernel_rfl) (by kernel_rfl) (by kernel_rfl) (fun _ _ _ h => h) (by kernel_rfl) (fun w' hw' => ?_) ?_
          rotate_left
          · go_simp; with_reducible rfl
          simp only [Act.put, List.setIfInBounds_toArray, List.set_cons_zero, List.set_cons_succ]
          refine wpR_take (i := 23) (v := ?_) (Upd.road _) rfl (by kernel_rfl) (by kernel_rfl) (by kernel_rfl) (fun _ _ _ h => h) (by kernel_rfl) (fun w' hw' => ?_) ?_
          rotate_left
          · have hcv := run_str_at (n := x.length) cx (hx7.out.upd hnx.out hw') rfl; go_simp; with_reducible rfl
          simp only [Act.put, List.setIfInBounds_toArray, List.set_cons_zero, List.set_cons_succ]
          refine wpR_take (i := 24) (v := ?_) (Upd.road _) rfl (by kernel_rfl) (by kernel_rfl) (by kernel_rfl) (fun _ _ _ h => h) (by kernel_rfl) (fun w' hw' => ?_) ?_
          rotate_left
          · go_simp; with_reducible rfl
          simp only [Act.put, List.setIfInBounds_toArray, List.set_cons_zero, List.set_cons_succ]
          refine wpR_take (i := 25) (v := ?_) (Upd.road _) rfl (by kernel_rfl) (by kernel_rfl) (by kernel_rfl) (fun _ _ _ h => h) (by kernel_rfl) (fun w' hw' => ?_) ?_
          rotate_left
          · go_simp; with_reducible rfl
          simp only [Act.put, List.setIfInBounds_toArray, List.set_cons_zero, List.set_cons_succ]
          refine wpR_take (i := 26) (v := ?_) (Upd.road _) rfl (by kernel_rfl) (by kernel_rfl) (by kernel_rfl) (fun _ _ _ h => h) (by kernel_rfl) (fun w' hw' => ?_) ?_
          rotate_left
          · go_simp; with_reducible rfl
          simp only [Act.put, List.setIfInBounds_toArray, List.set_cons_zero, List.set_cons_succ]
          refine wpR_take (i := 27) (v := ?_) (Upd.road _) rfl (by kernel_rfl) (by kernel_rfl) (by kernel_rfl) (fun _ _ _ h => h) (by kernel_rfl) (fun w' hw' => ?_) ?_
          rotate_left
          · have hcv := run_str_at (n := K) c (hbt.out.upd hnb.out hw') hxl.out; go_simp; with_reducible rfl
          simp only [Act.put, List.setIfInBounds_toArray, List.set_cons_zero, List.set_cons_succ]
          refine wpR_take (i := 28) (v := ?_) (Upd.road _) rfl (by kernel_rfl) (by kernel_rfl) (by kernel_rfl) (fun _ _ _ h => h) (by kernel_rfl) (fun w' hw' => ?_) ?_
          rotate_left
          · go_simp; with_reducible rfl
          simp only [Act.put, List.setIfInBounds_toArray, List.set_cons_zero, List.set_cons_succ]
          refine wpR_take (i := 29) (v := ?_) (Upd.road _) rfl (by kernel_rfl) (by kernel_rfl) (by kernel_rfl) (fun _ _ _ h => h) (by kernel_rfl) (fun w' hw' => ?_) ?_
          rotate_left
          · go_simp; with_reducible rfl
          simp only [Act.put, List.setIfInBounds_toArray, List.set_cons_zero, List.set_cons_succ]
          refine wpR_take (i := 30) (v := ?_) (Upd.road _) rfl (by kernel_rfl) (by kernel_rfl) (by kernel_rfl) (fun _ _ _ h => h) (by kernel_rfl) (fun w' hw' => ?_) ?_
          rotate_left
          · go_simp; with_reducible rfl
          simp only [Act.put, List.setIfInBounds_toArray, List.set_cons_zero, List.set_cons_succ]
          refine wpR_done (by kernel_rfl) ?_ _
          go_wp2_with fail
          go_ret
          exact ⟨rfl, hb6.out⟩
theorem wordOwn_any (A : Option Addr) (c : Nat) (b : List UInt8) (hc : b.length ≤ c) (m n : Int) (hm : -9223372036854775808 ≤ m ∧ m ≤ 9223372036854775807) (hn : -9223372036854775808 ≤ n ∧ n ≤ 9223372036854775807) (w : World) (hr : Rd w w.heap.size A b) :
    Calls Try.prog 16 #[.slice A b.length c, .int .i64 m, .int .i64 n] w fun e w' => e = .returned (.bool true) ∧ Below w.heap.size w w' := by
  by_cases h : 50 < b.length
  · exact wordOwn_walk A b.length c b rfl hc m n hm hn 50 (by omega) (by omega) (.inl ⟨h, rfl⟩) w hr
  · exact wordOwn_walk A b.length c b rfl hc m n hm hn b.length (by omega) (by omega) (.inr ⟨by omega, rfl⟩) w hr
end Go.Proofs.Ytpenmeddbpgkmaa
