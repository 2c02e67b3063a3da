/- Walks of mat: Times. -/
import Derived.Test.YtpeilgeloaogfaaMatWalk
import Derived.Test.YtpeilgeloaogfaaReg
namespace Go.Proofs.Ytpeilgeloaogfaa
set_option linter.unusedVariables false
set_option linter.unusedSimpArgs false
open Go Go.RowKit
def fits (La Lb : List (List UInt8)) : Bool := isTab La && isTab Lb && (width La == Lb.length)
theorem ent_get {L : List (List UInt8)} {i j : Nat} {l : List UInt8} {x : UInt8} (hl : L[i]? = some l) (hx : l[j]? = some x) : ent L i j = x := by
  have e : L.getD i [] = l := by rw [List.getD_eq_getElem?_getD, hl]; rfl
  unfold ent
  rw [e, List.getD_eq_getElem?_getD, hx]; rfl
theorem ent_row {L : List (List UInt8)} {i : Nat} {l : List UInt8} (hl : L[i]? = some l) : ent L i = fun j => l.getD j 0 := by
  have e : L.getD i [] = l := by rw [List.getD_eq_getElem?_getD, hl]; rfl
  funext j
  unfold ent
  rw [e]
theorem tab_len {L : List (List UInt8)} (h : isTab L = true) {i : Nat} {l : List UInt8} (hl : L[i]? = some l) : l.length = width L := (isTab_iff.mp h).2.2.2.2 l (List.mem_of_getElem? hl)
set_option maxHeartbeats 8000000 in
set_option maxRecDepth 20000 in
theorem times_ok (A : Option Addr) (n c : Nat) (La : List (List UInt8)) (hc : n ≤ c) (A2 : Option Addr) (n2 c2 : Nat) (Lb : List (List UInt8)) (hc2 : n2 ≤ c2) (w : World) (h : RT w w.heap.size A n La) (h2 : RT w w.heap.size A2 n2 Lb) (hf : fits La Lb = true) :
    Calls Try.prog 29 #[.slice A n c, .slice A2 n2 c2] w fun e w' => ∃ g G C, e = .returned (.tuple #[.slice (some ⟨g, 0, none⟩) n n, .bool true]) ∧ TB w' w.heap.size g n (width Lb) G C (mm n2 (ent La) (ent Lb)) ∧ Below w.heap.size w w' := by
  unfold fits at hf
  rw [Bool.and_eq_true, Bool.and_eq_true, beq_iff_eq] at hf
  obtain ⟨⟨hta, htb⟩, hw⟩ := hf
  have hn := h.1
  have hn2 := h2.1
  obtain ⟨b1, b2, b3, b4, -⟩ := isTab_iff.mp hta
  obtain ⟨b5, b6, b7, b8, -⟩ := isTab_iff.mp htb
  rw [hn] at b1 b2
  rw [hn2] at b5 b6 hw
  rw [hw] at b3 b4
  have i1 := isMatrix_any A n c La hc (by omega) w h
  have i2 := isMatrix_any A2 n2 c2 Lb hc2 (by omega) w h2
  rw [hta] at i1
  rw [htb] at i2
  obtain ⟨ba, oa, A0, c0, la0, rfl, hba, hla0, hca0, -, -, -⟩ := h.at_ (i := 0) (by omega)
  obtain ⟨bb, ob, B0, d0, lb0, rfl, hbb0, hlb0, hcb0, -, -, -⟩ := h2.at_ (i := 0) (by omega)
  have hla := tab_len hta hla0
  have hlb := tab_len htb hlb0
  rw [Nat.add_zero] at hca0 hcb0
  rw [hla, hw] at hca0
  obtain ⟨m, hm⟩ : ∃ m, width Lb = m := ⟨_, rfl⟩
  rw [hlb, hm] at hcb0
  rw [hm] at b7 b8 ⊢
  have hne : ((n2 : Int) != (n2 : Int)) = false := by simp
  have ia0 : (0 : Int) < (n : Int) := by omega
  have ib0 : (0 : Int) < (n2 : Int) := by omega
  have hRa := Lib.hid h
  have hRb := Lib.hid h2
  replace i1 := Lib.hid i1
  replace i2 := Lib.hid i2
  replace hta := Lib.hid hta
  replace htb := Lib.hid htb
  replace hw := Lib.hid hw
  replace hm := Lib.hid hm
  replace hn := Lib.hid hn
  replace hn2 := Lib.hid hn2
  replace hla := Lib.hid hla
  replace hlb := Lib.hid hlb
  replace hla0 := Lib.hid hla0
  replace hlb0 := Lib.hid hlb0
  clear h h2
  go_enter Try.func29, Try.ntmps29
  go_wp2_with fail
  refine i1.out.mono ?_
  rintro e w' ⟨rfl, rfl⟩
  go_wp2_with fail
  refine i2.out.mono ?_
  rintro e w' ⟨rfl, rfl⟩
  go_wp2_with (refine wpl_makeT rfl (.tmp 29) (.tmp 29) rfl n rfl rfl (by omega) ?_; intro w1 hsp1 hb1; replace hsp1 := Lib.hid hsp1; replace hb1 := Lib.hid hb1)
  obtain ⟨g, hg⟩ : ∃ g, w'.heap.size = g := ⟨_, rfl⟩
  have hsp : Hid (Sp w1 g n) := Lib.hid (by rw [← hg]; exact hsp1.out)
  rw [hg]
  replace hg := Lib.hid hg
  clear hca0 hcb0 i1 i2
  go_loopw [33] (fun i wr => ∃ (k : Nat) (G C : Nat → Nat), k ≤ n ∧ i = .int .i64 k ∧ Hid (TB wr w'.heap.size g k m G C (mm n2 (ent La) (ent Lb))) ∧ Hid (Sp wr g n) ∧ Hid (Below w'.heap.size w' wr)) (fun i _ => n - (intOf i).toNat)
  case atStart => exact ⟨0, fun _ => 0, fun _ => 0, Nat.zero_le _, rfl, Lib.hid (TB.empty _ hsp.out (Nat.le_of_eq hg.out) m b7 _ _ _), hsp, hb1⟩
  case round =>
    obtain ⟨k, G, C, hk, rfl, htb1, hsp2, hb2⟩ := hrel
    clear hsp hsp1 hb1
    by_cases hlt : k < n
    · obtain ⟨ba', oa', A3, c3, la, ea, hba3, hla3, hca3, hlc3, hcm3, hrd3⟩ := hRa.out.at_ (i := k) hlt
      injection ea with ea
      injection ea with ea1 ea2 _
      subst ea1 ea2
      have hl3 := tab_len hta.out hla3
      rw [hw.out] at hl3
      rw [hl3] at hca3 hlc3
      replace hca3 := (hb2.out.cell (p := ⟨ba, oa + k, none⟩) hba3).trans hca3
      obtain ⟨bb', ob', B3, d3, lb3, eb, -, hlb3, hcb3, -, -, -⟩ := (hRb.out.low hb2.out).at_ (i := 0) (by omega)
      injection eb with eb
      injection eb with eb1 eb2 _
      subst eb1 eb2
      have hl4 := tab_len htb.out hlb3
      rw [hm.out] at hl4
      rw [hl4, Nat.add_zero] at hcb3
      obtain ⟨vs, hcs⟩ := hsp2.out.cell hlt
      have hfs := hsp2.out.free k
      have hszr : g < wr.heap.size := hsp2.out.lt
      replace hla3 := Lib.hid hla3
      replace hlb3 := Lib.hid hlb3
      replace hl3 := Lib.hid hl3
      replace hl4 := Lib.hid hl4
      have hbase := hb2.out.size
      replace hrd3 := Lib.hid hrd3
      go_wp2_with (refine wpl_make rfl (.tmp 43) (.tmp 43) rfl w'.heap.size m rfl rfl (by omega) hbase ?_; intro w3 ho3 hb3; replace ho3 := Lib.hid ho3; have hcs3 := (hb3.cell (p := ⟨g, k, none⟩) hszr).trans hcs; have hfs3 := (hb3.frozen (p := ⟨g, k, none⟩) hszr).trans hfs; replace hb3 := Lib.hid hb3)
      clear hca3 hcb3 hcs hfs hcs3 hfs3
      have htb3 := (htb1.out.below hb3.out).grow (hsp2.out.below hb3.out) hlt (G' := wr.heap.size) (C' := m) (f := fun _ => 0) (by rw [row_zero]; exact ho3.out) (fun i hi => Nat.ne_of_lt (htb1.out.glt hi).2)
      have hsp3 := (hsp2.out.below hb3.out).set k (.slice (some ⟨wr.heap.size, 0, none⟩) m m)
      have hb4 : Below w'.heap.size w' (w3.setCell ⟨g, k, none⟩ (.slice (some ⟨wr.heap.size, 0, none⟩) m m)) := (hb2.out.trans (hb3.out.mono hbase)).setCell (p := ⟨g, k, none⟩) htb1.out.low _
      obtain ⟨w4, hw4⟩ : ∃ w4, w3.setCell ⟨g, k, none⟩ (.slice (some ⟨wr.heap.size, 0, none⟩) m m) = w4 := ⟨_, rfl⟩
      rw [hw4] at htb3 hsp3 hb4 ⊢
      replace hw4 := Lib.hid hw4
      obtain ⟨G1, hG1⟩ : ∃ G1 : Nat → Nat, (fun i => if i = k then wr.heap.size else G i) = G1 := ⟨_, rfl⟩
      obtain ⟨C1, hC1⟩ : ∃ C1 : Nat → Nat, (fun i => if i = k then m else C i) = C1 := ⟨_, rfl⟩
      rw [hG1, hC1] at htb3
      replace hG1 := Lib.hid hG1
      replace hC1 := Lib.hid hC1
      have htb4 : Hid (TB w4 w'.heap.size g (k + 1) m G1 C1 (fun r => if r = k then (fun c => gsum 0 (fun t => gmul (ent La k t) (ent Lb t c))) else mm n2 (ent La) (ent Lb) r)) := Lib.hid htb3
      replace hsp3 := Lib.hid hsp3
      replace hb4 := Lib.hid hb4
      clear htb3 htb1 hsp2 hb2 hb3 ho3 hbase hszr
      go_loopw [48] (fun i wr => ∃ j : Nat, j ≤ n2 ∧ i = .int .i64 j ∧ Hid (TB wr w'.heap.size g (k + 1) m G1 C1 (fun r => if r = k then (fun c => gsum j (fun t => gmul (ent La k t) (ent Lb t c))) else mm n2 (ent La) (ent Lb) r)) ∧ Hid (Sp wr g n) ∧ Hid (Below w'.heap.size w' wr)) (fun i _ => n2 - (intOf i).toNat)
      case atStart => exact ⟨0, Nat.zero_le _, rfl, htb4, hsp3, hb4⟩
      case round =>
        obtain ⟨j, hj, rfl, htb5, hsp5, hb5⟩ := hrel
        clear htb4 hsp3 hb4
        by_cases hlj : j < n2
        · obtain ⟨x, hx⟩ : ∃ x, la[j]? = some x := ⟨la[j]'(by rw [hl3.out]; exact hlj), List.getElem?_eq_getElem (by rw [hl3.out]; exact hlj)⟩
          obtain ⟨ad, rfl, hadb, hcx⟩ := hrd3.out.get hx
          replace hcx := (hb5.out.cell (p := ad.add j) (by rw [block_of_add]; exact hadb)).trans hcx
          obtain ⟨bb', ob', B4, d4, lb4, eb, -, hlb4, hcb4, hlc4, hcm4, hrd4⟩ := hRb.out.at_ (i := j) hlj
          injection eb with eb
          injection eb with eb1 eb2 _
          subst eb1 eb2
          have hl5 := tab_len htb.out hlb4
          rw [hm.out] at hl5
          rw [hl5] at hcb4
          have hxe := ent_get hla3.out hx
          have hre := ent_row hlb4
          have hstep : Hid (EqM (k + 1) m (fun r => if r = k then (fun c => gsum (j + 1) (fun t => gmul (ent La k t) (ent Lb t c))) else mm n2 (ent La) (ent Lb) r) (fun r => if r = k then (fun c => gsum j (fun t => gmul (ent La k t) (ent Lb t c)) ^^^ gmul x (lb4.getD c 0)) else (fun r => if r = k then (fun c => gsum j (fun t => gmul (ent La k t) (ent Lb t c))) else mm n2 (ent La) (ent Lb) r) r)) := Lib.hid (fun r c hr hc => by
            by_cases e : r = k
            · simp only [if_pos e]
              rw [gsum_succ, hxe, hre]
            · simp only [if_neg e])
          replace hx := Lib.hid hx
          replace hlb4 := Lib.hid hlb4
          replace hl5 := Lib.hid hl5
          replace hxe := Lib.hid hxe
          replace hre := Lib.hid hre
          replace hadb := Lib.hid hadb
          go_wp2_with fail
          obtain ⟨wd, hwd⟩ : ∃ wd, wd = wr.drew := ⟨_, rfl⟩
          have hbb : Below wr.heap.size wr wd := by rw [hwd]; exact (Below.refl _ _).drew
          have htbd := Lib.hid (htb5.out.below hbb)
          have hspd := Lib.hid (hsp5.out.below hbb)
          have hbd := Lib.hid (hb5.out.trans (hbb.mono hb5.out.size))
          have hck := htbd.out.cell (i := k) (by omega)
          have hcb5 := (hbd.out.cell (p := ⟨bb, ob + j, none⟩) hbb0).trans hcb4
          have hrd5 : Hid (Rd wd wd.heap.size B4 lb4) := Lib.hid ((hrd4.keep (fun p hp => hbd.out.cell hp)).more hbd.out.size)
          have hap : Hid (∀ ad, B4 = some ad → ad.block ≠ G1 k) := Lib.hid (fun ad e => by
            obtain ⟨y, hy⟩ : ∃ y, lb4[0]? = some y := ⟨lb4[0]'(by rw [hl5.out]; omega), List.getElem?_eq_getElem (by rw [hl5.out]; omega)⟩
            obtain ⟨ad', e', hlt', -⟩ := hrd4.get hy
            rw [e] at e'
            injection e' with e'
            subst e'
            have := (htbd.out.glt (i := k) (by omega)).1
            omega)
          have hok : Hid (OB wd w'.heap.size (.slice (some ⟨G1 k, 0, none⟩) m (C1 k)) (row m (fun c => gsum j (fun t => gmul (ent La k t) (ent Lb t c))))) := Lib.hid (by
            have := htbd.out.own k (by omega)
            simp only [eq_self, if_true] at this
            exact this)
          have hg1 : g ≠ G1 k := fun e => htbd.out.gne (i := k) (by omega) e.symm
          have hbb1 : bb ≠ G1 k := by have := (htbd.out.glt (i := k) (by omega)).1; omega
          clear hrd4 hcx hcb4 htb5 hsp5 hb5 hbb
          refine wpR_region (Upd (fun b => b = G1 k)) 9999 (by kernel_rfl) ?_
          (rw [← hwd]; replace hwd := Lib.hid hwd)
          refine wpR_take (i := 0) (v := ?_) (Upd.road _) (some 53) rfl (by kernel_rfl) (by kernel_rfl) (by kernel_rfl) (by kernel_rfl) (by kernel_rfl) (fun _ _ _ h => h) (by kernel_rfl) (fun w' hw' => ?_) ?_
          rotate_left
          · go_simp; with_reducible rfl
          simp only [Act.put, List.setIfInBounds_toArray, List.set_cons_zero, List.set_cons_succ]
          refine wpR_take (i := 1) (v := ?_) (Upd.road _) (some 54) rfl (by kernel_rfl) (by kernel_rfl) (by kernel_rfl) (by kernel_rfl) (by kernel_rfl) (fun _ _ _ h => h) (by kernel_rfl) (fun w' hw' => ?_) ?_
          rotate_left
          · go_simp; with_reducible rfl
          simp only [Act.put, List.setIfInBounds_toArray, List.set_cons_zero, List.set_cons_succ]
          refine wpR_take (i := 2) (v := ?_) (Upd.road _) (some 55) rfl (by kernel_rfl) (by kernel_rfl) (by kernel_rfl) (by kernel_rfl) (by kernel_rfl) (fun _ _ _ h => h) (by kernel_rfl) (fun w' hw' => ?_) ?_
          rotate_left
          · go_simp; with_reducible rfl
          simp only [Act.put, List.setIfInBounds_toArray, List.set_cons_zero, List.set_cons_succ]
          refine wpR_take (i := 3) (v := ?_) (Upd.road _) (some 56) rfl (by kernel_rfl) (by kernel_rfl) (by kernel_rfl) (by kernel_rfl) (by kernel_rfl) (fun _ _ _ h => h) (by kernel_rfl) (fun w' hw' => ?_) ?_
          rotate_left
          · have q := (hw'.cell (p := ⟨g, k, none⟩) hspd.out.lt hg1).trans hck; go_simp; with_reducible rfl
          simp only [Act.put, List.setIfInBounds_toArray, List.set_cons_zero, List.set_cons_succ]
          refine wpR_take (i := 4) (v := ?_) (Upd.road _) (some 57) rfl (by kernel_rfl) (by kernel_rfl) (by kernel_rfl) (by kernel_rfl) (by kernel_rfl) (fun _ _ _ h => h) (by kernel_rfl) (fun w' hw' => ?_) ?_
          rotate_left
          · go_simp; with_reducible rfl
          simp only [Act.put, List.setIfInBounds_toArray, List.set_cons_zero, List.set_cons_succ]
          refine wpR_take (i := 5) (v := ?_) (Upd.road _) (some 58) rfl (by kernel_rfl) (by kernel_rfl) (by kernel_rfl) (by kernel_rfl) (by kernel_rfl) (fun _ _ _ h => h) (by kernel_rfl) (fun w' hw' => ?_) ?_
          rotate_left
          · go_simp; with_reducible rfl
          simp only [Act.put, List.setIfInBounds_toArray, List.set_cons_zero, List.set_cons_succ]
          refine wpR_take (i := 6) (v := ?_) (Upd.road _) (some 59) rfl (by kernel_rfl) (by kernel_rfl) (by kernel_rfl) (by kernel_rfl) (by kernel_rfl) (fun _ _ _ h => h) (by kernel_rfl) (fun w' hw' => ?_) ?_
          rotate_left
          · go_simp; with_reducible rfl
          simp only [Act.put, List.setIfInBounds_toArray, List.set_cons_zero, List.set_cons_succ]
          refine wpR_take (i := 7) (v := ?_) (Upd.road _) (some 60) rfl (by kernel_rfl) (by kernel_rfl) (by kernel_rfl) (by kernel_rfl) (by kernel_rfl) (fun _ _ _ h => h) (by kernel_rfl) (fun w' hw' => ?_) ?_
          rotate_left
          · have q := (hw'.cell (p := ⟨bb, ob + j, none⟩) (Nat.lt_of_lt_of_le hbb0 hbd.out.size) hbb1).trans hcb5; go_simp; with_reducible rfl
          simp only [Act.put, List.setIfInBounds_toArray, List.set_cons_zero, List.set_cons_succ]
          refine wpR_take (i := 8) (v := ?_) (Upd.road _) (some 61) rfl (by kernel_rfl) (by kernel_rfl) (by kernel_rfl) (by kernel_rfl) (by kernel_rfl) (fun _ _ _ h => h) (by kernel_rfl) (fun w' hw' => ?_) ?_
          rotate_left
          · go_simp; with_reducible rfl
          simp only [Act.put, List.setIfInBounds_toArray, List.set_cons_zero, List.set_cons_succ]
          refine wpR_one 9 rfl (by kernel_rfl) (by kernel_rfl) (fun K hK => ?_)
          go_simp
          refine (addMultiple_any w'.heap.size (G1 k) m (C1 k) (fun c => gsum j (fun t => gmul (ent La k t) (ent Lb t c))) B4 d4 lb4 hl5.out (by omega) x _ hok.out hrd5.out hap.out).mono ?_
          rintro e w6 ⟨rfl, ho6, hu6, hz6⟩
          refine hK _ _ (fun _ => hu6) ?_
          clear hK K
          have htb6 := htbd.out.put (i := k) (by omega) ho6 hu6
          have hsp6 := hspd.out.keep (hu6.2.2.2.2 g hspd.out.lt (fun e => htbd.out.gne (i := k) (by omega) e.symm))
          have hb6 := Upd.to_below hbd.out hu6 hbd.out.size (fun k' hk' => by rw [hk']; exact (htbd.out.glt (i := k) (by omega)).1)
          replace htb6 := Lib.hid (htb6.congr (hstep.out))
          replace hsp6 := Lib.hid hsp6
          replace hb6 := Lib.hid hb6
          clear ho6 hu6 hz6
          try simp only [Act.put, List.setIfInBounds_toArray, List.set_cons_zero, List.set_cons_succ]
          refine wpR_done (by kernel_rfl) ?_ _
          clear hck hcb5 hap hok hrd5 htbd hspd hbd
          go_wp2_with fail
          go_roundw
          case rel => exact ⟨j + 1, by omega, by go_num, htb6, hsp6, hb6⟩
          case measure => simp [intOf]; omega
        · obtain rfl : j = n2 := by omega
          have htbe := Lib.hid (htb5.out.congr (M' := mm j (ent La) (ent Lb)) (fun r c hr hc => by
            by_cases e : r = k
            · subst e; simp only [eq_self, if_true]; rfl
            · simp only [if_neg e]))
          clear htb5
          go_wp2_with fail
          go_roundw
          case rel => exact ⟨k + 1, G1, C1, by omega, by go_num, htbe, hsp5, hb5⟩
          case measure => simp [intOf]; omega
    · obtain rfl : k = n := by omega
      go_wp2_with fail
      go_ret2
      exact ⟨g, G, C, rfl, htb1.out, hb2.out⟩
set_option maxHeartbeats 8000000 in
set_option maxRecDepth 20000 in
theorem times_no (A : Option Addr) (n c : Nat) (La : List (List UInt8)) (hc : n ≤ c) (hcm : c ≤ 9223372036854775807) (A2 : Option Addr) (n2 c2 : Nat) (Lb : List (List UInt8)) (hc2 : n2 ≤ c2) (hcm2 : c2 ≤ 9223372036854775807) (w : World) (h : RT w w.heap.size A n La) (h2 : RT w w.heap.size A2 n2 Lb) (hf : fits La Lb = false) :
    Calls Try.prog 29 #[.slice A n c, .slice A2 n2 c2] w fun e w' => e = .returned (.tuple #[.slice none 0 0, .bool false]) ∧ w' = w := by
  unfold fits at hf
  have i1 := isMatrix_any A n c La hc (by omega) w h
  have i2 := isMatrix_any A2 n2 c2 Lb hc2 (by omega) w h2
  cases hta : isTab La with
  | false =>
    rw [hta] at i1
    replace i1 := Lib.hid i1
    replace i2 := Lib.hid i2
    replace hta := Lib.hid hta
    replace hf := Lib.hid hf
    clear h h2
    go_enter Try.func29, Try.ntmps29
    go_wp2_with fail
    refine i1.out.mono ?_
    rintro e w' ⟨rfl, rfl⟩
    go_wp2_with fail
    go_ret2
    exact ⟨rfl, rfl⟩
  | true =>
    rw [hta] at i1 hf
    cases htb : isTab Lb with
    | false =>
      rw [htb] at i2
      replace i1 := Lib.hid i1
      replace i2 := Lib.hid i2
      replace hta := Lib.hid hta
      replace htb := Lib.hid htb
      replace hf := Lib.hid hf
      clear h h2
      go_enter Try.func29, Try.ntmps29
      go_wp2_with fail
      refine i1.out.mono ?_
      rintro e w' ⟨rfl, rfl⟩
      go_wp2_with fail
      refine i2.out.mono ?_
      rintro e w' ⟨rfl, rfl⟩
      go_wp2_with fail
      go_ret2
      exact ⟨rfl, rfl⟩
    | true =>
      rw [htb] at i2 hf
      rw [Bool.true_and, Bool.true_and, beq_eq_false_iff_ne] at hf
      have hn := h.1
      have hn2 := h2.1
      have b1 := (isTab_iff.mp hta).1
      obtain ⟨ba, oa, A0, c0, la0, rfl, hba, hla0, hca0, -, -, -⟩ := h.at_ (i := 0) (by omega)
      have hla := tab_len hta hla0
      rw [Nat.add_zero, hla] at hca0
      obtain ⟨m, hm⟩ : ∃ m, width La = m := ⟨_, rfl⟩
      rw [hm] at hca0 hf
      rw [hn2] at hf
      have hne : ((m : Int) != (n2 : Int)) = true := by simp; omega
      have ia0 : (0 : Int) < (n : Int) := by omega
      replace i1 := Lib.hid i1
      replace i2 := Lib.hid i2
      replace hta := Lib.hid hta
      replace htb := Lib.hid htb
      replace hf := Lib.hid hf
      replace hm := Lib.hid hm
      replace hn := Lib.hid hn
      replace hn2 := Lib.hid hn2
      replace hla := Lib.hid hla
      replace hla0 := Lib.hid hla0
      clear h h2
      go_enter Try.func29, Try.ntmps29
      go_wp2_with fail
      refine i1.out.mono ?_
      rintro e w' ⟨rfl, rfl⟩
      go_wp2_with fail
      refine i2.out.mono ?_
      rintro e w' ⟨rfl, rfl⟩
      go_wp2_with fail
      go_ret2
      exact ⟨rfl, rfl⟩
end Go.Proofs.Ytpeilgeloaogfaa
