/- The laws of dsk: DskOver. -/
import Derived.Test.YtppclmidnomkjaaDskLaw
namespace Go.Proofs.Ytppclmidnomkjaa
set_option linter.unusedVariables false
set_option linter.unusedSimpArgs false
open Go Go.RowKit

theorem wpl_makeZ {w : World} {ops : Array Oper} {rest : List Oper} {o : Oper} {a : Act} {Q : Exit → Act → World → Prop} (hgd : o.guard = none) (x y : Operand)
    (ho : o.op = .makeSlice 28 x y) (base : Nat) (n : Nat) (z : Int) (hz : z = (n : Int)) (hx : a.eval x = .int .i64 z) (hy : a.eval y = .int .i64 z) (hn : n ≤ 140737488355328) (hbase : base ≤ w.heap.size)
    (h : ∀ w', OB w' base (.slice (some ⟨w.heap.size, 0, none⟩) n n) (List.replicate n 0) → Below w.heap.size w w' → wpList Try.prog ops Q rest (a.put o.dst (.slice (some ⟨w.heap.size, 0, none⟩) n n)) w') : wpList Try.prog ops Q (o :: rest) a w := by
  subst hz
  exact wpl_make hgd x y ho base n hx hy hn hbase h
theorem OB.rd' {w : World} {base n : Nat} {A : Option Addr} {c : Nat} {l : List UInt8} (h : OB w base (.slice A n c) l) : Rd w w.heap.size A l := by
  obtain ⟨A', c', hv, hc, _, hr, _⟩ := h.form
  injection hv with h1 h2 h3
  subst h1
  exact hr
set_option maxHeartbeats 4000000 in
set_option maxRecDepth 10000 in
theorem dskOver_any (n : Nat) (hn : n ≤ 65535) (A : Option Addr) (k c : Nat) (b : List UInt8) (hk : b.length = k) (w : World) (hr : Rd w w.heap.size A b) :
    Calls Try.prog 12 #[.int .u16 n, .slice A k c] w fun e w' => e = .returned (.bool true) ∧ Below w.heap.size w w' := by
  replace hr := Lib.hid hr
  have hr0 := hr
  replace hk := Lib.hid hk
  by_cases hbig : 60000 < k
  · have hd : decide (60000 < (k : Int)) = true := decide_eq_true (by omega)
    go_enter Try.func12, Try.ntmps12
    go_wp2_with fail
    refine (dnew_any w).mono ?_
    rintro e w1 ⟨rfl, hd1, hb1⟩
    replace hb1 := Lib.hid hb1
    replace hd1 := Lib.hid hd1
    go_wp2_with fail
    refine (awake11_any _).mono ?_
    rintro e w9 ⟨rfl, hba⟩
    go_wp2
    go_ret
    exact ⟨rfl, hb1.out.trans (hba.mono hb1.out.size)⟩
  · have hd : decide (60000 < (k : Int)) = false := decide_eq_false (by omega)
    have hk6 : k ≤ 60000 := by omega
    obtain ⟨F, hF, hF2⟩ : ∃ F : Nat, (262144 : Int) - n = F ∧ F ≤ 262144 := ⟨262144 - n, by omega, by omega⟩
    obtain ⟨M, hM⟩ : ∃ M : Nat, Hid (M = 262145) := ⟨_, Lib.hid rfl⟩
    have hFw : IntKind.i64.wrap ((262144 : Int) - n) = F := by rw [IntKind.wrap_i64]; omega
    have hF3 := Lib.hid hF
    clear hF hbig
    go_enter Try.func12, Try.ntmps12
    go_wp2_with fail
    refine (dnew_any w).mono ?_
    rintro e w1 ⟨rfl, hd1, hb1⟩
    obtain ⟨lo, hlo⟩ : ∃ lo, lo = w.heap.size := ⟨_, rfl⟩
    rw [← hlo] at hd1
    rw [← hlo]
    have hl : w.heap.size ≤ lo := by omega
    replace hlo := Lib.hid hlo
    replace hd1 := Lib.hid hd1
    replace hb1 := Lib.hid hb1
    go_wp2_with (refine wpl_make rfl (.tmp 15) (.tmp 15) rfl w1.heap.size F rfl rfl (by omega) (Nat.le_refl _) ?_; intro w2 ho2 hb2)
    have hd2 := Lib.hid (hd1.out.below hb2)
    have hbw2 := Lib.hid (hb1.out.trans (hb2.mono hb1.out.size))
    have hr2 := Lib.hid ((hr.out.below hbw2.out).more hbw2.out.size)
    obtain ⟨z1, hz1⟩ : ∃ z1, List.replicate F (0 : UInt8) = z1 := ⟨_, rfl⟩
    have hzl : Hid (z1.length = F) := Lib.hid (by rw [← hz1, List.length_replicate])
    rw [hz1] at ho2
    have hR2 := Lib.hid (OB.rd' ho2)
    clear hz1 ho2 hb2 hd1 hb1 hr
    obtain ⟨S1, hS1⟩ : ∃ S1 : DS, S1 = { DS.wipe with c := z1, dur := z1.length } := ⟨_, rfl⟩
    have hsw : DS.wipe.swap z1 = (0, S1) := by unfold DS.swap; rw [if_neg (by rw [hzl.out]; omega), hS1]; rfl
    obtain ⟨S2, hS2⟩ : ∃ S2 : DS, S2 = S1.fuse 1 := ⟨_, rfl⟩
    have h2c : Hid (S2.c = z1 ∧ S2.dur = F ∧ S2.fused = true ∧ S2.left = 1) := Lib.hid (by rw [hS2, hS1]; exact ⟨rfl, hzl.out, rfl, rfl⟩)
    replace hsw := Lib.hid hsw
    replace hS2 := Lib.hid hS2
    clear hS1
    go_wp2_with fail
    refine (swap_any lo _ lo _ _ F F z1 hzl.out (by omega) _ hd2.out hR2.out).mono ?_
    rw [hsw.out]
    rintro e w3 ⟨rfl, hd3, hch⟩
    have hb3 := Lib.hid (hch.from_ hbw2.out hl hd2.out.lw)
    have hr3 := Lib.hid ((hr0.out.below hb3.out).more hb3.out.size)
    replace hd3 := Lib.hid hd3
    clear hch hd2 hbw2 hr2 hR2
    go_wp2_with fail
    refine (fuse_any lo _ lo _ 1 (by decide) _ hd3.out).mono ?_
    rw [← hS2.out]
    rintro e w4 ⟨rfl, hd4, hch⟩
    have hb4 := Lib.hid (hch.from_ hb3.out hl hd3.out.lw)
    replace hd4 := Lib.hid hd4
    clear hch hd3 hb3 hr3
    go_wp2_with (refine wpl_makeZ rfl (.const (.int .i64 262145)) (.const (.int .i64 262145)) rfl w4.heap.size M 262145 (by rw [hM.out]; rfl) rfl rfl (by rw [hM.out]; decide) (Nat.le_refl _) ?_; intro w5 ho5 hb5)
    have hd5 := Lib.hid (hd4.out.below hb5)
    have hb5' := Lib.hid (hb4.out.trans (hb5.mono hb4.out.size))
    obtain ⟨z2, hz2⟩ : ∃ z2, List.replicate M (0 : UInt8) = z2 := ⟨_, rfl⟩
    have hz2l : Hid (z2.length = M) := Lib.hid (by rw [← hz2, List.length_replicate])
    rw [hz2] at ho5
    have hR5 := Lib.hid (OB.rd' ho5)
    clear hz2 ho5 hb5 hd4 hb4
    have hsw2 : Hid (S2.swap z2 = (16, S2)) := Lib.hid (by unfold DS.swap; rw [if_pos (by rw [hz2l.out, hM.out]; decide)])
    refine (swap_any lo _ lo _ _ M M z2 hz2l.out (by rw [hM.out]; decide) _ hd5.out hR5.out).mono ?_
    rw [hsw2.out]
    rintro e w6 ⟨rfl, hd6, hch⟩
    have hb6 := Lib.hid (hch.from_ hb5'.out hl hd5.out.lw)
    have hr6 := Lib.hid ((hr0.out.below hb6.out).more hb6.out.size)
    replace hd6 := Lib.hid hd6
    clear hch hd5 hb5' hR5
    by_cases hov : n < k
    · have hap : Hid (S2.append b = (16, S2)) := Lib.hid (by unfold DS.append; rw [h2c.out.1, if_pos (by rw [hzl.out, hk.out]; have := hF3.out; omega)])
      have hov2 : (n : Int) < (k : Int) := by omega
      obtain ⟨S3, hS3⟩ : ∃ S3 : DS, S3 = { S2 with dur := F, left := 0 } := ⟨_, rfl⟩
      have hsy : Hid (S2.sync = (0, S3)) := Lib.hid (by
        have ho : S2.op = (true, { S2 with left := 0 }) := by
          unfold DS.op
          rw [h2c.out.2.2.1, h2c.out.2.2.2]
          rfl
        unfold DS.sync
        rw [ho, if_pos rfl, hS3]
        show (0, ({ S2 with left := 0, dur := S2.c.length } : DS)) = _
        rw [h2c.out.1, hzl.out])
      have h3c : Hid (S3.c = z1 ∧ S3.dur = F) := Lib.hid (by rw [hS3]; exact ⟨h2c.out.1, rfl⟩)
      replace hS3 := Lib.hid hS3
      go_wp2_with fail
      refine (append_any lo _ lo _ A k c b hk.out (by omega) _ hd6.out hr6.out).mono ?_
      rw [hap.out]
      rintro e w7 ⟨rfl, hd7, hch⟩
      have hb7 := Lib.hid (hch.from_ hb6.out hl hd6.out.lw)
      replace hd7 := Lib.hid hd7
      clear hch hd6 hb6 hr6
      go_wp2_with fail
      refine (awake11_any _).mono ?_
      rintro e w8 ⟨rfl, hba⟩
      have hd8 := Lib.hid (hd7.out.below hba)
      have hb8 := Lib.hid (hb7.out.trans (hba.mono hb7.out.size))
      clear hba hd7 hb7
      go_wp2_with fail
      refine (sync_any lo _ lo _ _ hd8.out).mono ?_
      rw [hsy.out]
      rintro e w9 ⟨rfl, hd9, hch⟩
      have hb9 := Lib.hid (hch.from_ hb8.out hl hd8.out.lw)
      replace hd9 := Lib.hid hd9
      clear hch hd8 hb8
      go_wp2_with fail
      refine (loose_any lo _ lo _ _ hd9.out).mono ?_
      rw [h3c.out.1, h3c.out.2, hzl.out, Int.sub_self]
      rintro e w10 ⟨rfl, n10, rfl⟩
      replace hd9 := Lib.hid (hd9.out.drewN n10)
      replace hb9 := Lib.hid (below_dn hb9.out n10)
      generalize w9.drewN n10 = w10 at *
      go_wp2_with fail
      refine (bytes_any lo _ lo _ _ hd9.out).mono ?_
      rintro e w11 ⟨v, rfl, ho, hbb⟩
      rw [h3c.out.1] at ho
      obtain ⟨A7, c7, rfl, -, -, -, -⟩ := ho.form
      have hb10 := Lib.hid (hb9.out.trans (hbb.mono hb9.out.size))
      clear ho hbb
      rw [hzl.out]
      go_wp2
      go_ret
      exact ⟨rfl, hb10.out⟩
    · obtain ⟨S3, hS3⟩ : ∃ S3 : DS, S3 = { S2 with c := z1 ++ b, left := 0 } := ⟨_, rfl⟩
      have hap : Hid (S2.append b = (0, S3)) := Lib.hid (by
        have ho : S2.op = (true, { S2 with left := 0 }) := by
          unfold DS.op
          rw [h2c.out.2.2.1, h2c.out.2.2.2]
          rfl
        unfold DS.append
        rw [ho, h2c.out.1, if_neg (by rw [hzl.out, hk.out]; have := hF3.out; omega), if_pos rfl, hS3])
      have hov2 : (k : Int) ≤ (n : Int) := by omega
      have h3c : Hid (S3.c = z1 ++ b ∧ S3.dur = F ∧ S3.c.length = F + k) := Lib.hid (by rw [hS3]; exact ⟨rfl, h2c.out.2.1, by show (z1 ++ b).length = _; rw [List.length_append, hzl.out, hk.out]⟩)
      have hsy : Hid (S3.sync = (11, S3)) := Lib.hid (by
        have ho : S3.op = (false, S3) := by
          unfold DS.op
          rw [hS3]
          show (if S2.fused = true then _ else _) = _
          rw [if_pos h2c.out.2.2.1]
          rfl
        unfold DS.sync
        rw [ho]
        rfl)
      replace hS3 := Lib.hid hS3
      go_wp2_with fail
      refine (append_any lo _ lo _ A k c b hk.out (by omega) _ hd6.out hr6.out).mono ?_
      rw [hap.out]
      rintro e w7 ⟨rfl, hd7, hch⟩
      have hb7 := Lib.hid (hch.from_ hb6.out hl hd6.out.lw)
      replace hd7 := Lib.hid hd7
      clear hch hd6 hb6 hr6
      go_wp2_with fail
      refine (awake11_any _).mono ?_
      rintro e w8 ⟨rfl, hba⟩
      have hd8 := Lib.hid (hd7.out.below hba)
      have hb8 := Lib.hid (hb7.out.trans (hba.mono hb7.out.size))
      clear hba hd7 hb7
      go_wp2_with fail
      refine (sync_any lo _ lo _ _ hd8.out).mono ?_
      rw [hsy.out]
      rintro e w9 ⟨rfl, hd9, hch⟩
      have hb9 := Lib.hid (hch.from_ hb8.out hl hd8.out.lw)
      replace hd9 := Lib.hid hd9
      clear hch hd8 hb8
      go_wp2_with fail
      refine (loose_any lo _ lo _ _ hd9.out).mono ?_
      rw [h3c.out.2.2, h3c.out.2.1, show ((F + k : Nat) : Int) - F = k from by omega]
      rintro e w10 ⟨rfl, n10, rfl⟩
      replace hd9 := Lib.hid (hd9.out.drewN n10)
      replace hb9 := Lib.hid (below_dn hb9.out n10)
      generalize w9.drewN n10 = w10 at *
      go_wp2_with fail
      refine (bytes_any lo _ lo _ _ hd9.out).mono ?_
      rintro e w11 ⟨v, rfl, ho, hbb⟩
      obtain ⟨A7, c7, rfl, -, -, -, -⟩ := ho.form
      have hb10 := Lib.hid (hb9.out.trans (hbb.mono hb9.out.size))
      clear ho hbb
      rw [h3c.out.2.2]
      have hFk : IntKind.i64.wrap ((F : Int) + k) = (F : Int) + k := by rw [IntKind.wrap_i64]; omega
      go_wp2
      go_ret
      exact ⟨rfl, hb10.out⟩
end Go.Proofs.Ytppclmidnomkjaa
