/- The law of three. -/
import Derived.Test.YtpenmeddbpgkmaaSumLaw2
import Derived.Deep.RegionHeld3
import Derived.Deep.DrawnRows
import Derived.Deep.DeepCutAuto
namespace Go.Proofs.Ytpenmeddbpgkmaa
set_option linter.unusedVariables false
open Go Go.RowKit
attribute [local go_sem ↓] Go.wp_at_zero Go.wp_at_succ

/-- three lists together, byte by byte -/
def three (x y z : List UInt8) (n : Nat) : List UInt8 := List.zipWith (· ^^^ ·) (List.zipWith (· ^^^ ·) (x.take n) (y.take n)) (z.take n)
theorem three_len (x y z : List UInt8) (n : Nat) (hx : n ≤ x.length) (hy : n ≤ y.length) (hz : n ≤ z.length) : (three x y z n).length = n := by
  unfold three
  simp only [List.length_zipWith, List.length_take]
  omega
theorem three_snoc (x y z : List UInt8) (n : Nat) (hx : n < x.length) (hy : n < y.length) (hz : n < z.length) : three x y z (n + 1) = three x y z n ++ [(x[n] ^^^ y[n]) ^^^ z[n]] := by
  unfold three
  rw [take_snoc x n hx, take_snoc y n hy, take_snoc z n hz, List.zipWith_append (by simp; omega), List.zipWith_append (by simp; omega)]
  rfl
theorem crc_three (x y z : List UInt8) (n : Nat) (hx : n ≤ x.length) (hy : n ≤ y.length) (hz : n ≤ z.length) :
    crc (three x y z n) = (crc (x.take n) ^^^ crc (y.take n)) ^^^ crc (z.take n) := by
  have h1 := reg_lin (x.take n) (y.take n) (by simp; omega) 4294967295#32 4294967295#32
  have h2 := reg_lin (List.zipWith (· ^^^ ·) (x.take n) (y.take n)) (z.take n) (by simp; omega) (4294967295#32 ^^^ 4294967295#32) 4294967295#32
  rw [h1] at h2
  have e : (4294967295#32 ^^^ 4294967295#32) ^^^ 4294967295#32 = 4294967295#32 := by decide
  rw [e] at h2
  unfold crc three
  rw [h2]
  generalize reg 4294967295#32 (x.take n) = a
  generalize reg 4294967295#32 (y.take n) = b
  generalize reg 4294967295#32 (z.take n) = c
  ext i hi
  simp only [BitVec.getElem_not, BitVec.getElem_xor]
  cases a[i] <;> cases b[i] <;> cases c[i] <;> rfl

theorem cells3_keep {w w' : World} {B : Nat} (hk : Below B w w') {p1 p2 p3 : Addr} (h1 : p1.block < B) (h2 : p2.block < B) (h3 : p3.block < B) {v1 v2 v3 : Value}
    (h : w.cell? p1 = some v1 ∧ w.cell? p2 = some v2 ∧ w.cell? p3 = some v3) : w'.cell? p1 = some v1 ∧ w'.cell? p2 = some v2 ∧ w'.cell? p3 = some v3 :=
  ⟨(hk.cell h1).trans h.1, (hk.cell h2).trans h.2.1, (hk.cell h3).trans h.2.2⟩
set_option maxHeartbeats 1000000 in
set_option maxRecDepth 10000 in
theorem sumThree_any (A B C : Option Addr) (c d f : Nat) (l m k : List UInt8) (hc : l.length ≤ c) (hd : m.length ≤ d) (hf : k.length ≤ f) (w : World) (hr : Rd w w.heap.size A l) (hs : Rd w w.heap.size B m) (ht : Rd w w.heap.size C k) :
    Calls Try.prog 5 #[.slice A l.length c, .slice B m.length d, .slice C k.length f] w fun e w' => e = .returned (.bool true) ∧ Below w.heap.size w w' := by
  have hsh := short_any A c l 500 (by omega) hc w hr _ rfl
  have hsh2 := fun (w' : World) (hb : Below w.heap.size w w') => short_any B d m 500 (by omega) hd w' (hs.up hb) _ rfl
  have hsh3 := fun (w' : World) (hb : Below w.heap.size w w') => short_any C f k 500 (by omega) hf w' (ht.up hb) _ rfl
  have hle := take_le l 500
  have hle2 := take_le m 500
  have hle3 := take_le k 500
  generalize l.take 500 = x at *
  generalize m.take 500 = y at *
  generalize k.take 500 = z at *
  replace hsh := Lib.hid hsh
  replace hsh2 := Lib.hid hsh2
  replace hsh3 := Lib.hid hsh3
  clear hr hs ht
  obtain ⟨n1, h1x, h1y, hn1⟩ : ∃ n : Nat, n ≤ x.length ∧ n ≤ y.length ∧ (n = x.length ∨ (n = y.length ∧ y.length < x.length)) := ⟨min x.length y.length, by omega, by omega, by omega⟩
  obtain ⟨n, hnn, hnz, hn⟩ : ∃ n : Nat, n ≤ n1 ∧ n ≤ z.length ∧ (n = n1 ∨ (n = z.length ∧ z.length < n1)) := ⟨min n1 z.length, by omega, by omega, by omega⟩
  replace hn := Lib.hid hn
  replace hn1 := Lib.hid hn1
  go_enter Try.func5, Try.ntmps5
  go_wp2_with fail
  refine hsh.out.mono ?_
  rintro e w1 ⟨v, rfl, hv, hb1⟩
  go_wp2_with fail
  refine (hsh2.out _ hb1).mono ?_
  rintro e w2 ⟨v2, rfl, hv2, hb2⟩
  have hb12 := hb1.trans (hb2.mono hb1.size)
  go_wp2_with fail
  refine (hsh3.out _ hb12).mono ?_
  rintro e w3 ⟨v3, rfl, hv3, hb3⟩
  have hb13 := hb12.trans (hb3.mono hb12.size)
  obtain ⟨A1, c1, rfl, hcx, -, hR1, -⟩ := hv.form
  obtain ⟨A2, c2, rfl, hcy, -, hR2, -⟩ := hv2.form
  obtain ⟨A3, c3, rfl, hcz, -, hR3, -⟩ := hv3.form
  replace hR1 := Lib.hid (hR1.up (hb2.trans (hb3.mono hb2.size)))
  replace hR2 := Lib.hid (hR2.up hb3)
  replace hR3 := Lib.hid hR3
  clear hv hv2 hv3 hsh hsh2 hsh3 hb1 hb2 hb3 hb12
  go_upto_if 24 with (fail)
  go_cut [10] (fun v wx => v = .int .i64 n1 ∧ w3 = wx)
  case first =>
    have hn1 := hn1.out
    by_cases h1 : y.length < x.length
    · obtain rfl : n1 = y.length := by omega
      clear hn1
      go_wp2
      go_meet
      exact ⟨rfl, rfl⟩
    · obtain rfl : n1 = x.length := by omega
      clear hn1
      have h1 : (x.length : Int) ≤ y.length := by omega
      go_wp2
      go_meet
      exact ⟨rfl, rfl⟩
  case rest =>
    obtain ⟨rfl, rfl⟩ := hcut
    go_upto_if 30 with (fail)
    go_cut [10] (fun v wx => v = .int .i64 n ∧ w3 = wx)
    case first =>
      have hn := hn.out
      by_cases h1 : z.length < n1
      · obtain rfl : n = z.length := by omega
        clear hn
        go_wp2
        go_meet
        exact ⟨rfl, rfl⟩
      · obtain rfl : n = n1 := by omega
        clear hn
        have h1 : (n : Int) ≤ z.length := by omega
        go_wp2
        go_meet
        exact ⟨rfl, rfl⟩
    case rest =>
      obtain ⟨rfl, rfl⟩ := hcut
      clear hn hn1
      have ho := OB.empty w3 w3.heap.size (Nat.le_refl _)
      replace ho := Lib.hid ho
      have ht1 : Hid (∀ k, k < n → ∃ a b c : UInt8, x[k]? = some a ∧ y[k]? = some b ∧ z[k]? = some c ∧ three x y z (k + 1) = three x y z k ++ [(a ^^^ b) ^^^ c]) := fun k hk =>
        ⟨_, _, _, List.getElem?_eq_getElem (by omega), List.getElem?_eq_getElem (by omega), List.getElem?_eq_getElem (by omega), three_snoc x y z k (by omega) (by omega) (by omega)⟩
      have htl : Hid (∀ k, k ≤ n → (three x y z k).length = k) := fun k hk => three_len x y z k (by omega) (by omega) (by omega)
      go_wp2
      go_loopw [11, 12] (fun v i wr => ∃ k : Nat, k ≤ n ∧ i = .int .i64 k ∧ OB wr w3.heap.size v (three x y z k) ∧ Below w3.heap.size w3 wr) (fun _ i _ => n - (intOf i).toNat)
      case atStart => exact ⟨0, Nat.zero_le _, rfl, ho.out, (Below.refl _ _).alloc (Nat.le_refl _) _⟩
      case round =>
        obtain ⟨k, hk, rfl, hown, hbw⟩ := hrel
        clear ho
        have hz := hbw.size
        by_cases hlt : k < n
        · obtain ⟨a, b, c, hxa, hyb, hzc, h3⟩ := ht1.out k hlt
          have htk := htl.out k hk
          obtain ⟨ad1, rfl, hq1, hc1⟩ := (hR1.out.below hbw).get hxa
          obtain ⟨ad2, rfl, hq2, hc2⟩ := (hR2.out.below hbw).get hyb
          obtain ⟨ad3, rfl, hq3, hc3⟩ := (hR3.out.below hbw).get hzc
          replace h3 := Lib.hid h3
          replace htk := Lib.hid htk
          clear hxa hyb hzc ht1 htl
          have hi0 : (0 : Int) ≤ (k : Int) := Int.natCast_nonneg _
          have hi1 : (k : Int) < (x.length : Int) := by omega
          have hi2 : (k : Int) < (y.length : Int) := by omega
          have hi3 : (k : Int) < (z.length : Int) := by omega
          go_wp2
          go_region_held3 (fun w' => w'.cell? (ad1.add k) = some (.int .u8 (U a)) ∧ w'.cell? (ad2.add k) = some (.int .u8 (U b)) ∧ w'.cell? (ad3.add k) = some (.int .u8 (U c))) (first | (exact cells3_keep hk1 (by rw [block_of_add]; exact hq1) (by rw [block_of_add]; exact hq2) (by rw [block_of_add]; exact hq3) (by first | assumption | go_keep)) | go_keep)
            ((refine step_append (by rfl) _ _ (by rfl) w3.heap.size _ (three x y z k) (by rfl) (OB.drew (OB.alloc hown _)) (wr.heap.size + 1) (some ⟨wr.heap.size, 0, none⟩) 1 [(a ^^^ b) ^^^ c] (by rfl) (Rd.lit _ _ _ _ rfl _ (by simp)) (by rw [htk.out]; simp; omega) (by simp; omega) ?_; intro v1 w1 hown1 hg1 _; have hk1 := below_app (OB.drew (OB.alloc hown _)) (Below.refl _ _) (by simp; omega) hg1))
          go_wp2
          go_roundw
          case rel => exact ⟨k + 1, by omega, by go_num, by rw [h3.out]; exact hown1, below_app (OB.drew (OB.alloc hown _)) (hbw.alloc hz _).drew (by simp; omega) hg1⟩
          case measure => simp [intOf]; omega
        · obtain rfl : k = n := by omega
          have htk := htl.out k (Nat.le_refl _)
          have hcr := crc_three x y z k (by omega) (by omega) (by omega)
          clear ht1 htl
          generalize three x y z k = t at *
          obtain ⟨A5, c5, rfl, -, -, hR5, -⟩ := hown.form
          clear hown
          replace hR1 := hR1.out.up hbw
          replace hR2 := hR2.out.up hbw
          replace hR3 := hR3.out.up hbw
          have hT1 := hR1.take k (by omega)
          have hT2 := hR2.take k (by omega)
          have hT3 := hR3.take k (by omega)
          have hl1 : (x.take k).length = k := by simp; omega
          have hl2 : (y.take k).length = k := by simp; omega
          have hl3 : (z.take k).length = k := by simp; omega
          clear hR1 hR2 hR3
          generalize x.take k = X at *
          generalize y.take k = Y at *
          generalize z.take k = Z at *
          replace hR5 := Lib.hid hR5
          replace hT1 := Lib.hid hT1
          replace hT2 := Lib.hid hT2
          replace hT3 := Lib.hid hT3
          replace hl1 := Lib.hid hl1
          replace hl2 := Lib.hid hl2
          replace hl3 := Lib.hid hl3
          replace hcr := Lib.hid hcr
          replace htk := Lib.hid htk
          have hi0 : (0 : Int) ≤ (k : Int) := Int.natCast_nonneg _
          have hi1 : (k : Int) ≤ (c1 : Int) := by omega
          have hi2 : (k : Int) ≤ (c2 : Int) := by omega
          have hi3 : (k : Int) ≤ (c3 : Int) := by omega
          go_wp2
          refine wp_region_cls wr.heap.size (by kernel_rfl) (by kernel_rfl) ?_
          repeat (quiet_step (first | (go_at_call 18; exact cls_of_below (Nat.le_refl _) (awake_any _)) | (go_at_call_of 19 A5; exact cls_of_same (sum_at A5 _ _ t rfl _ (hR5.out.sub' _ (Nat.le_refl _)) (by rw [htk.out]; omega))) | (go_at_call_of 19 A1; exact cls_of_same (sum_at A1 _ _ X hl1.out _ (hT1.out.sub' _ (Nat.le_refl _)) (by omega))) | (go_at_call_of 19 A2; exact cls_of_same (sum_at A2 _ _ Y hl2.out _ (hT2.out.sub' _ (Nat.le_refl _)) (by omega))) | (go_at_call_of 19 A3; exact cls_of_same (sum_at A3 _ _ Z hl3.out _ (hT3.out.sub' _ (Nat.le_refl _)) (by omega)))))
          refine wpQuiet_nil ?_
          rintro w9 ⟨V, rfl⟩
          rw [hcr.out]
          go_wp2
          go_ret
          have hs3 := hb13.size
          refine ⟨ret_selfv _, hb13.trans ((hbw.trans (V.2.mono hz)).mono hs3)⟩
end Go.Proofs.Ytpenmeddbpgkmaa
