/- The laws of dsk: DskOwn. -/
import Derived.Test.YtppclmidnomkjaaDskLaw
import Derived.Deep.DeepCutAuto
namespace Go.Proofs.Ytppclmidnomkjaa
set_option linter.unusedVariables false
set_option linter.unusedSimpArgs false
open Go Go.RowKit

theorem bs_append (a b : List UInt8) : bs a ++ bs b = bs (a ++ b) := by
  unfold bs
  apply ByteArray.ext
  simp
theorem OB.at_ {w : World} {base n c : Nat} {A : Option Addr} {l : List UInt8} (h : OB w base (.slice A n c) l) : l.length = n := by
  rcases h.2 with ⟨e, h0⟩ | ⟨g, cap, cur, e, -⟩
  · injection e with _ e _; omega
  · injection e with _ e _; exact e.symm
set_option maxHeartbeats 4000000 in
set_option maxRecDepth 10000 in
theorem dskOwn_walk (A : Option Addr) (n c : Nat) (a : List UInt8) (hn : a.length = n) (A2 : Option Addr) (n2 c2 : Nat) (b : List UInt8) (hn2 : b.length = n2) (t : UInt8) (h1 : n ≤ 1000) (h2 : n2 ≤ 1000) (w : World) (hr : Rd w w.heap.size A a) (hr2 : Rd w w.heap.size A2 b) :
    Calls Try.prog 13 #[.slice A n c, .slice A2 n2 c2, .int .u8 (U t)] w fun e w' => e = .returned (.bool true) ∧ Below w.heap.size w w' := by
  have ho1 := Lib.hid (OB.empty w w.heap.size (Nat.le_refl _))
  have hr' := Lib.hid (hr.alloc (Nat.le_refl _) (.cells #[] 5))
  have hb0 := Lib.hid ((Below.refl w.heap.size w).alloc (Nat.le_refl _) (.cells #[] 5))
  replace hr := Lib.hid hr
  replace hr2 := Lib.hid hr2
  replace hn := Lib.hid hn
  replace hn2 := Lib.hid hn2
  go_enter Try.func13, Try.ntmps13
  go_wp2_with (first
    | (at_builtin; refine wpl_append rfl (.tmp 24) (.tmp 25) rfl w.heap.size (.slice (some ⟨w.heap.size, 0, none⟩) 0 0) [] rfl ho1.out w.heap.size A c a (by rw [hn.out]; rfl) hr'.out (by simp; rw [hn.out]; omega) (by simp) ?_; intro v1 w1 hown1 hg1 _; rw [List.nil_append] at hown1; obtain ⟨Ax, cx, rfl, -, -, -, -⟩ := hown1.form; have hb1 := Lib.hid (below_app ho1.out hb0.out (by simp) hg1); replace hown1 := Lib.hid hown1; have ho2 := Lib.hid (OB.empty w1 w1.heap.size (Nat.le_refl _)); have hr2' := Lib.hid (((hr2.out.below hb1.out).more hb1.out.size).alloc (Nat.le_refl _) (.cells #[] 5)); clear hg1)
    | (at_builtin; refine wpl_append rfl (.tmp 27) (.tmp 28) rfl w1.heap.size (.slice (some ⟨w1.heap.size, 0, none⟩) 0 0) [] rfl ho2.out w1.heap.size A2 c2 b (by rw [hn2.out]; rfl) hr2'.out (by simp; rw [hn2.out]; omega) (by simp) ?_; intro v2 w2 hown2 hg2 _; rw [List.nil_append] at hown2; obtain ⟨Ay, cy, rfl, -, -, -, -⟩ := hown2.form; have hb12 := Lib.hid (below_app ho2.out ((Below.refl w1.heap.size w1).alloc (Nat.le_refl _) (.cells #[] 5)) (by simp) hg2); replace hown2 := Lib.hid hown2; clear hg2))
  refine (dnew_any w2).mono ?_
  rintro e w3 ⟨rfl, hd3, hb3⟩
  have hz12 := hb12.out.size
  have hz1 := hb1.out.size
  have hx2 := Lib.hid (hown1.out.below hb12.out)
  have hlx1 := Lib.hid (hown1.out.lt)
  have hlx := Lib.hid (hx2.out.lt)
  have hly := Lib.hid (hown2.out.lt)
  have hbw2 := Lib.hid (hb1.out.trans (hb12.out.mono hz1))
  obtain ⟨lo, hlo⟩ : ∃ lo, lo = w2.heap.size := ⟨_, rfl⟩
  rw [← hlo] at hd3 hlx hly hz12
  have hx3 := Lib.hid (hx2.out.below hb3)
  have hy3 := Lib.hid (hown2.out.below hb3)
  have hbw3 := Lib.hid (hbw2.out.trans (hb3.mono hbw2.out.size))
  rw [← hlo]
  clear hb3
  replace hd3 := Lib.hid hd3
  have hlw : w.heap.size ≤ lo := by omega
  replace hlo := Lib.hid hlo
  rw [hn.out] at hx3 hlx hlx1
  rw [hn2.out] at hy3 hly
  rw [hn.out, hn2.out]
  clear hx2 hown1 hown2 ho1 ho2 hr' hr2' hb0 hb1 hb12 hbw2
  go_wp2_with fail
  refine (swap_any lo _ lo _ Ax n cx a hn.out (by omega) _ hd3.out (OB.rd hx3.out).1).mono ?_
  rw [show DS.wipe.swap a = (0, { DS.wipe with c := a, dur := a.length }) by unfold DS.swap; rw [if_neg (by rw [hn.out]; omega)]; rfl]
  rintro e w4 ⟨rfl, hd4, hch⟩
  have hbl := hch.below hd3.out.lw
  have hx4 := Lib.hid (hx3.out.under hlx.out hbl)
  have hy4 := Lib.hid (hy3.out.under hly.out hbl)
  have hbw4 := Lib.hid (hch.from_ hbw3.out hlw hd3.out.lw)
  replace hd4 := Lib.hid hd4
  clear hch hbl hx3 hy3 hbw3 hd3
  go_wp2_with fail
  refine (append_any lo _ lo _ Ay n2 cy b hn2.out (by omega) _ hd4.out (OB.rd hy4.out).1).mono ?_
  rw [show DS.append { DS.wipe with c := a, dur := a.length } b = (0, { DS.wipe with c := a ++ b, dur := a.length }) by unfold DS.append; rw [if_neg (by show ¬ 262144 < a.length + b.length; rw [hn.out, hn2.out]; omega)]; rfl]
  rintro e w5 ⟨rfl, hd5, hch⟩
  have hbl := hch.below hd4.out.lw
  have hx5 := Lib.hid (hx4.out.under hlx.out hbl)
  have hy5 := Lib.hid (hy4.out.under hly.out hbl)
  have hbw5 := Lib.hid (hch.from_ hbw4.out hlw hd4.out.lw)
  obtain ⟨hi5, hhi5⟩ : ∃ hi5, hi5 = w5.heap.size := ⟨_, rfl⟩
  rw [← hhi5] at hd5
  obtain ⟨S, hS⟩ : ∃ S : DS, S = { DS.wipe with c := a ++ b, dur := a.length } := ⟨_, rfl⟩
  rw [← hS] at hd5
  have hSc : Hid (S.c = a ++ b) := Lib.hid (by rw [hS])
  clear hS hhi5
  replace hd5 := Lib.hid hd5
  clear hch hbl hx4 hy4 hbw4 hd4
  go_wp2_with fail
  go_loopw [10] (fun i wr => ∃ (k : Nat) (x : List UInt8), i = .int .i64 k ∧ k ≤ n ∧ Hid (OB wr w.heap.size (.slice Ax n cx) x) ∧ Hid (OB wr w1.heap.size (.slice Ay n2 cy) b) ∧ Hid (Dk wr lo hi5 lo S) ∧ Hid (Below w.heap.size w wr)) (fun i _ => n - (intOf i).toNat)
  case atStart => exact ⟨0, a, rfl, Nat.zero_le _, hx5, hy5, hd5, hbw5⟩
  case round =>
    obtain ⟨k, x, rfl, hk, hx6, hy6, hd6, hb6⟩ := hrel
    clear hx5 hy5 hd5 hbw5
    have hxl := hx6.out.at_
    by_cases hlt : k < n
    · obtain ⟨g, rfl, hg1, hg2, hcell, hfr, hst⟩ := OB.store hx6.out (k := k) (by omega)
      have hst := Lib.hid (hst (x[k] ^^^ t))
      have hg3 := (hlx.out g rfl).2
      have hg4 := (hlx1.out g rfl).2
      have hne : (Value.slice Ay n2 cy).ownBlock ≠ some g := fun e => by have := (hly.out g e).1; omega
      replace hne := Lib.hid hne
      generalize x[k] = z at *
      go_wp2
      go_roundw
      case rel => exact ⟨k + 1, x.set k (z ^^^ t), by go_num, by omega, hst, Lib.hid (hy6.out.set_other _ _ hne.out), Lib.hid (hd6.out.set ⟨g, k, none⟩ (.inl hg3) _), Lib.hid (hb6.out.setCell (show w.heap.size ≤ g from hg1) _)⟩
      case measure => simp [intOf]; omega
    · obtain rfl : k = n := by omega
      clear hx6 hxl hlx hlx1
      go_wp2_with fail
      go_loopw [11] (fun i wr => ∃ (j : Nat) (y : List UInt8), i = .int .i64 j ∧ j ≤ n2 ∧ Hid (OB wr w1.heap.size (.slice Ay n2 cy) y) ∧ Hid (Dk wr lo hi5 lo S) ∧ Hid (Below w.heap.size w wr)) (fun i _ => n2 - (intOf i).toNat)
      case atStart => exact ⟨0, b, rfl, Nat.zero_le _, hy6, hd6, hb6⟩
      case round =>
        obtain ⟨j, y, rfl, hj, hy7, hd7, hb7⟩ := hrel
        clear hy6 hd6 hb6
        have hyl := hy7.out.at_
        by_cases hlt2 : j < n2
        · obtain ⟨g, rfl, hg1, hg2, hcell, hfr, hst⟩ := OB.store hy7.out (k := j) (by omega)
          have hst := Lib.hid (hst (y[j] ^^^ t))
          have hg3 := (hly.out g rfl).2
          have hgw : w.heap.size ≤ g := by have := (hly.out g rfl).1; omega
          generalize y[j] = z at *
          go_wp2
          go_roundw
          case rel => exact ⟨j + 1, y.set j (z ^^^ t), by go_num, by omega, hst, Lib.hid (hd7.out.set ⟨g, j, none⟩ (.inl hg3) _), Lib.hid (hb7.out.setCell hgw _)⟩
          case measure => simp [intOf]; omega
        · obtain rfl : j = n2 := by omega
          clear hy7 hyl hly
          rename World => wq
          go_wp2_with fail
          refine (bytes_any lo _ lo S _ hd7.out).mono ?_
          rintro e w7 ⟨v7, rfl, ho7, hbb⟩
          rw [hSc.out] at ho7
          have hd8 := Lib.hid (hd7.out.below hbb)
          have hb8 := Lib.hid (hb7.out.trans (hbb.mono hb7.out.size))
          have hhi := Lib.hid hd7.out.bounds.2.2
          have hra := Lib.hid ((hr.out.below hb8.out).more hb8.out.size)
          have hrb := Lib.hid ((hr2.out.below hb8.out).more hb8.out.size)
          obtain ⟨A7, c7, rfl, -, -, hR7, -⟩ := ho7.form
          obtain ⟨ab, hab⟩ : ∃ ab, a ++ b = ab := ⟨_, rfl⟩
          rw [hab] at ho7 hR7
          rw [hab] at hSc
          rw [hab]
          have hcv1 := run_str_at (n := k) c hra.out hn.out
          have hcv2 := run_str_at (n := j) c2 hrb.out hn2.out
          have hcv3 := run_str_at (n := ab.length) c7 hR7 rfl
          replace hab := Lib.hid hab
          have happ : bs a ++ bs b = bs ab := by rw [bs_append, hab.out]
          replace ho7 := Lib.hid ho7
          have habl : ab.length ≤ 2000 := by rw [← hab.out, List.length_append, hn.out, hn2.out]; omega
          replace hR7 := Lib.hid hR7
          have hla : a.length ≤ 1000 := by rw [hn.out]; omega
          have hlb : b.length ≤ 1000 := by rw [hn2.out]; omega
          clear hd7 hb7 hbb
          go_wp2_with fail
          clear hcv1 hcv2 hcv3
          go_loopw [14] (fun i wr => ∃ (m : Nat) (z : List UInt8), i = .int .i64 m ∧ m ≤ ab.length ∧ z.length = ab.length ∧ Hid (OB wr wq.heap.size (.slice A7 ab.length c7) z) ∧ Hid (Dk wr lo hi5 lo S) ∧ Hid (Below w.heap.size w wr)) (fun i _ => ab.length - (intOf i).toNat)
          case atStart => exact ⟨0, ab, rfl, Nat.zero_le _, rfl, ho7, hd8, hb8⟩
          case round =>
            obtain ⟨m, z, rfl, hm, hzl, ho9, hd9, hb9⟩ := hrel
            clear ho7 hd8 hra hrb hR7
            by_cases hlt3 : m < ab.length
            · obtain ⟨g, rfl, hg1, hg2, hcell, hfr, hst⟩ := OB.store ho9.out (k := m) (by omega)
              have hst := Lib.hid (hst (z[m] ^^^ t))
              have hg3 : hi5 ≤ g := Nat.le_trans hhi.out hg1
              have hgw : w.heap.size ≤ g := by have := hd9.out.bounds; omega
              generalize z[m] = q at *
              replace hzl := Lib.hid hzl
              go_wp2
              go_roundw
              case rel => exact ⟨m + 1, z.set m (q ^^^ t), by go_num, by omega, by rw [List.length_set]; exact hzl.out, hst, Lib.hid (hd9.out.set ⟨g, m, none⟩ (.inr hg3) _), Lib.hid (hb9.out.setCell hgw _)⟩
              case measure => simp [intOf]; omega
            · obtain rfl : m = ab.length := by omega
              clear ho9 hzl
              go_wp2_with fail
              refine (awake11_any _).mono ?_
              rintro e w9 ⟨rfl, hba⟩
              have hd10 := Lib.hid (hd9.out.below hba)
              have hb10 := Lib.hid (hb9.out.trans (hba.mono hb9.out.size))
              clear hba hd9
              go_wp2_with fail
              refine (bytes_any lo _ lo S _ hd10.out).mono ?_
              rintro e w10 ⟨v10, rfl, ho10, hbb⟩
              rw [hSc.out] at ho10
              obtain ⟨A10, c10, rfl, -, -, hR10, -⟩ := ho10.form
              have hcv := run_str_at (n := ab.length) c10 hR10 rfl
              have hb11 := Lib.hid (hb10.out.trans (hbb.mono hb10.out.size))
              replace hR10 := Lib.hid hR10
              clear ho10 hbb
              go_wp2_with fail
              go_ret
              exact ⟨rfl, hb11.out⟩
theorem dskOwn_any (A : Option Addr) (c : Nat) (a : List UInt8) (hc : a.length ≤ c) (A2 : Option Addr) (c2 : Nat) (b : List UInt8) (hc2 : b.length ≤ c2) (t : UInt8) (w : World) (hr : Rd w w.heap.size A a) (hr2 : Rd w w.heap.size A2 b) :
    Calls Try.prog 13 #[.slice A a.length c, .slice A2 b.length c2, .int .u8 (U t)] w fun e w' => e = .returned (.bool true) ∧ Below w.heap.size w w' := by
  by_cases h : 1000 < a.length
  · have hd : decide (1000 < (a.length : Int)) = true := decide_eq_true (by omega)
    clear hr hr2 h
    go_enter Try.func13, Try.ntmps13
    go_wp2_with fail
    refine (awake11_any _).mono ?_
    rintro e w9 ⟨rfl, hba⟩
    go_wp2
    go_ret
    exact ⟨rfl, hba⟩
  · by_cases h2 : 1000 < b.length
    · have hd : decide (1000 < (a.length : Int)) = false := decide_eq_false (by omega)
      have hd2 : decide (1000 < (b.length : Int)) = true := decide_eq_true (by omega)
      clear hr hr2 h h2
      go_enter Try.func13, Try.ntmps13
      go_wp2_with fail
      refine (awake11_any _).mono ?_
      rintro e w9 ⟨rfl, hba⟩
      go_wp2
      go_ret
      exact ⟨rfl, hba⟩
    · exact dskOwn_walk A a.length c a rfl A2 b.length c2 b rfl t (by omega) (by omega) w hr hr2
end Go.Proofs.Ytppclmidnomkjaa
