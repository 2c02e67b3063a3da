/- The law of sealed bytes. -/
import Derived.Test.YtpenmeddbpgkmaaSumLaw2
namespace Go.Proofs.Ytpenmeddbpgkmaa
set_option linter.unusedVariables false
open Go Go.RowKit

theorem xor_eq_self {z t : UInt8} (h : z = z ^^^ t) : t = 0 := by
  have := congrArg (fun v => z ^^^ v) h
  simp only [← UInt8.xor_assoc, UInt8.xor_self, UInt8.zero_xor] at this
  exact this.symm

set_option maxHeartbeats 1000000 in
set_option maxRecDepth 10000 in
theorem sumSealed_any (A B : Option Addr) (c d : Nat) (l m : List UInt8) (hc : l.length ≤ c) (hd : m.length ≤ d) (at_ tu : UInt8) (w : World) (hr : Rd w w.heap.size A l) (hs : Rd w w.heap.size B m) :
    Calls Try.prog 6 #[.slice A l.length c, .slice B m.length d, .int .u8 (U at_), .int .u8 (U tu)] w fun e w' => e = .returned (.bool true) ∧ Below w.heap.size w w' := by
  have hsh := short_any A c l 1000 (by omega) hc w hr _ rfl
  have hsh2 := fun (w' : World) (hb : Below w.heap.size w w') => short_any B d m 1000 (by omega) hd w' (hs.up hb) _ rfl
  have hle := take_le l 1000
  have hle2 := take_le m 1000
  generalize l.take 1000 = x at *
  generalize m.take 1000 = y at *
  replace hsh := Lib.hid hsh
  replace hsh2 := Lib.hid hsh2
  clear hr hs
  go_enter Try.func6, Try.ntmps6
  go_wp2_with fail
  refine hsh.out.mono ?_
  rintro e w1 ⟨v, rfl, hv, hb1⟩
  obtain ⟨A1, c1, rfl, -, -, hR, -⟩ := hv.form
  replace hR := Lib.hid hR
  clear hv hsh
  go_wp2_with fail
  refine (sealed_any A1 _ c1 x rfl (by omega) w1 hR.out).mono ?_
  rintro e w2 ⟨v2, rfl, hv2, hb2⟩
  have hb2 := hb1.trans (hb2.mono hb1.size)
  go_wp2_with fail
  refine (hsh2.out w2 hb2).mono ?_
  rintro e w3 ⟨v3, rfl, hv3, hb3⟩
  obtain ⟨A3, c3, rfl, -, -, hR3, -⟩ := hv3.form
  replace hR3 := Lib.hid hR3
  clear hv3 hsh2
  go_wp2_with fail
  refine (sealed_any A3 _ c3 y rfl (by omega) w3 hR3.out).mono ?_
  rintro e w4 ⟨v4, rfl, hv4, hb4⟩
  have hb34 : Below w2.heap.size w2 w4 := hb3.trans (hb4.mono hb3.size)
  obtain ⟨A2, c2, rfl, -, -, hR2, -⟩ := hv2.form
  obtain ⟨A4, c4, rfl, -, -, hR4, -⟩ := hv4.form
  have hcx := crc_sealed x
  have hcy := crc_sealed y
  have hxl : (x ++ bytes4 (crc x)).length = x.length + 4 := by simp [bytes4]
  have hyl : (y ++ bytes4 (crc y)).length = y.length + 4 := by simp [bytes4]
  have hR2' := hR2.up hb34
  clear hv2 hv4 hR hR3 hR2
  generalize x ++ bytes4 (crc x) = X at *
  generalize y ++ bytes4 (crc y) = Y at *
  have ho := Lib.hid (OB.empty w4 w4.heap.size (Nat.le_refl _))
  have hR2a := Lib.hid (hR2'.alloc (Nat.le_refl _) (.cells #[] 5))
  replace hR2' := Lib.hid hR2'
  replace hR4 := Lib.hid hR4
  have hXY : crc X = crc Y := hcx.trans hcy.symm
  clear hcx hcy
  replace hXY := Lib.hid hXY
  have hx4 : 4 ≤ X.length := by omega
  have hx5 : X.length ≤ 1004 := by omega
  have hy5 : Y.length ≤ 1004 := by omega
  clear hxl hyl
  obtain ⟨q, hq, hq3⟩ : ∃ q : Nat, U at_ % 4 = (q : Int) ∧ q ≤ 3 := ⟨(U at_ % 4).toNat, by have := U_bd at_; omega, by have := U_bd at_; omega⟩
  have hu0 := U_lo at_
  have hu1 := U_hi at_
  have hk : X.length - 1 - q < X.length := by omega
  have hZ : (crc (X.set (X.length - 1 - q) (X[X.length - 1 - q] ^^^ tu)) == crc X) = (tu == 0) := by
    rw [Bool.eq_iff_iff]; simp only [beq_iff_eq]
    rw [crc_burst (X.length - 1 - q) (by simp) (fun i hi => List.getElem?_set_ne (by omega))]
    constructor
    · intro h
      have := congrArg (fun l => l[X.length - 1 - q]?) h
      simp only [List.getElem?_set_self hk, List.getElem?_eq_getElem hk, Option.some.injEq] at this
      exact xor_eq_self this.symm
    · intro h
      subst h
      simp
  have hst : ∀ (w' : World) (A5 : Option Addr) (c5 : Nat), OB w' w4.heap.size (.slice A5 X.length c5) X → _ := fun w' A5 c5 h => h.store hk
  have hzl : (X.set (X.length - 1 - q) (X[X.length - 1 - q] ^^^ tu)).length = X.length := by simp
  have hu : ∀ (w' : World) (A5 : Option Addr) (c5 : Nat), OB w' w4.heap.size (.slice A5 X.length c5) X → ∃ g, A5 = some ⟨g, 0, none⟩ ∧ w4.heap.size ≤ g ∧
      w'.cell? ⟨g, X.length - 1 - q, none⟩ = some (.int .u8 (U X[X.length - 1 - q])) ∧ w'.frozen? ⟨g, X.length - 1 - q, none⟩ = false ∧
      OB (w'.setCell ⟨g, X.length - 1 - q, none⟩ (.int .u8 (U (X[X.length - 1 - q] ^^^ tu)))) w4.heap.size (.slice A5 X.length c5) (X.set (X.length - 1 - q) (X[X.length - 1 - q] ^^^ tu)) := fun w' A5 c5 h => by
    obtain ⟨g, h1, h2, _, h3, h4, h5⟩ := h.store hk
    exact ⟨g, h1, h2, h3, h4, h5 _⟩
  clear hst
  generalize X[X.length - 1 - q] = z at *
  generalize X.set (X.length - 1 - q) (z ^^^ tu) = Z at *
  replace hu := Lib.hid hu
  replace hzl := Lib.hid hzl
  replace hZ := Lib.hid hZ
  have hqi : ((X.length : Int) - 1 - q) = ((X.length - 1 - q : Nat) : Int) := by omega
  replace hqi := Lib.hid hqi
  go_wp2_with (at_builtin; refine wpl_append rfl (.tmp 18) (.tmp 19) rfl w4.heap.size (.slice (some ⟨w4.heap.size, 0, none⟩) 0 0) [] rfl ho.out w4.heap.size A2 c2 X rfl hR2a.out (by simp; omega) (by simp) ?_; intro v5 w5 hown5 hg5 _; have hb5 := below_app ho.out ((Below.refl w4.heap.size w4).alloc (Nat.le_refl _) _) (by simp) hg5; rw [List.nil_append] at hown5; obtain ⟨A5, c5, rfl, -, -, -, -⟩ := hown5.form; obtain ⟨g, rfl, hg, hcell, hfr, hst⟩ := hu.out _ _ _ hown5; clear hown5 hg5 hu; replace hst := Lib.hid hst)
  have hb6 := hb5.setCell (p := ⟨g, X.length - 1 - q, none⟩) hg (.int .u8 (U (z ^^^ tu)))
  have hRz := hst.out.rd.1
  clear hst hcell hfr hb5 ho hR2a
  generalize w5.setCell ⟨g, X.length - 1 - q, none⟩ (.int .u8 (U (z ^^^ tu))) = w6 at *
  have hRx := hR2'.out.up hb6
  have hRy := hR4.out.up hb6
  replace hRx := Lib.hid hRx
  replace hRy := Lib.hid hRy
  replace hRz := Lib.hid hRz
  refine (awake_any _).mono ?_
  rintro e w7 ⟨rfl, hb7⟩
  have hRx7 := Lib.hid (hRx.out.up hb7)
  have hRy7 := Lib.hid (hRy.out.up hb7)
  have hRz7 := Lib.hid (hRz.out.up hb7)
  go_wp2_with fail
  refine (sum_at A2 _ _ X rfl _ hRx7.out (by omega)).mono ?_
  rintro e w' ⟨rfl, rfl⟩
  go_wp2_with fail
  refine (sum_at A4 _ _ Y rfl _ hRy7.out (by omega)).mono ?_
  rintro e w' ⟨rfl, rfl⟩
  rw [hXY.out]
  go_wp2_with fail
  refine (sum_at _ _ _ Z hzl.out _ hRz7.out (by omega)).mono ?_
  rintro e w' ⟨rfl, rfl⟩
  go_wp2_with fail
  refine (sum_at A2 _ _ X rfl _ hRx7.out (by omega)).mono ?_
  rintro e w' ⟨rfl, rfl⟩
  have hZ2 : (crc Z == crc X) = (tu == 0) := hZ.out
  go_wp2_with fail
  go_ret
  have hs := hb2.size
  refine ⟨rfl, hb2.trans ((hb34.trans ((hb6.trans (hb7.mono hb6.size)).mono hb34.size)).mono hs)⟩
end Go.Proofs.Ytpenmeddbpgkmaa
