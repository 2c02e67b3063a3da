/- The reference of mat: Full. -/
import Derived.Test.YtpeilgeloaogfaaMatRef4
namespace Go.Proofs.Ytpeilgeloaogfaa
set_option linter.unusedVariables false
set_option linter.unusedSimpArgs false
open Go Go.RowKit
theorem wpo_append {w : World} {o : Oper} {a : Act} {K : Act → World → Prop} {Q : Exit → Act → World → Prop} (hgd : o.guard = none) (s x : Operand)
    (ho : o.op = .call { callee := .builtin .append, args := #[s, x], argTypes := #[29, 29] })
    (base : Nat) (v : Value) (l : List UInt8) (hs : a.eval s = v) (hown : OB w base v l)
    (B : Nat) (A : Option Addr) (c : Nat) (news : List UInt8) (hx : a.eval x = .slice A news.length c) (hr : Rd w B A news)
    (hlen : l.length + news.length ≤ 140737488355328) (hbase : base ≤ w.heap.size)
    (h : ∀ v' w', OB w' base v' (l ++ news) → w.grownBy w' v.ownBlock → (v'.ownBlock = v.ownBlock ∨ v'.ownBlock = some w.heap.size) → K (a.put o.dst v') w') :
    Oper.wp Try.prog o a w K Q := by
  have := step_append (ops := #[]) (Q := Q) (E := False) hgd s x ho base v l hs hown B A c news hx hr hlen hbase h
  have hw : Region.wanted o (yielded #[] a.tmps) = true := by simp [Region.wanted, hgd]
  rwa [if_pos hw] at this
theorem AT.at_ {w : World} {base n c m : Nat} {A : Option Addr} {M : Mx} (h : AT w base (.slice A n c) (tabM n m M)) (hs : base ≤ w.heap.size) {i : Nat} (hi : i < n) {j : Nat} (hj : j < m) :
    ∃ g ad c', A = some ⟨g, 0, none⟩ ∧ base ≤ g ∧ g < w.heap.size ∧ w.cell? ⟨g, i, none⟩ = some (.slice (some ad) m c') ∧ w.frozen? ⟨g, i, none⟩ = false ∧ m ≤ c' ∧ RowOk w base (some ad) c' (Go.Proofs.Ytpeilgeloaogfaa.row m (M i)) ∧ ∀ j, j < m → (ad.add j).block < w.heap.size ∧ w.cell? (ad.add j) = some (.int .u8 (U (M i j))) := by
  obtain ⟨g, A', c', rfl, h1, h2, h3, h4, h5⟩ := h.row (tabM_get hi M)
  obtain ⟨h6, h7, -⟩ := h5.rd hs
  rw [row_length] at h3 h7
  obtain ⟨ad, rfl, hadb, hc⟩ := h6.get (row_get hj (M i))
  refine ⟨g, ad, c', rfl, h1, h2, h3, h4, h7, h5, fun j' hj' => ?_⟩
  obtain ⟨ad2, e, hb2, hc2⟩ := h6.get (row_get hj' (M i))
  injection e with e
  subst e
  exact ⟨by rw [block_of_add]; exact hb2, hc2⟩
theorem AT.at2 {w : World} {base n c m g : Nat} {M : Mx} (h : AT w base (.slice (some ⟨g, 0, none⟩) n c) (tabM n m M)) (hs : base ≤ w.heap.size) {i : Nat} (hi : i < n) {j : Nat} (hj : j < m) :
    ∃ ad c', base ≤ g ∧ g < w.heap.size ∧ w.cell? ⟨g, i, none⟩ = some (.slice (some ad) m c') ∧ w.frozen? ⟨g, i, none⟩ = false ∧ m ≤ c' ∧ RowOk w base (some ad) c' (Go.Proofs.Ytpeilgeloaogfaa.row m (M i)) ∧ ∀ j, j < m → (ad.add j).block < w.heap.size ∧ w.cell? (ad.add j) = some (.int .u8 (U (M i j))) := by
  obtain ⟨g', ad, c', eg, r⟩ := h.at_ hs hi hj
  injection eg with eg
  injection eg with eg
  subst eg
  exact ⟨ad, c', r⟩
theorem Upper.swap {n k p : Nat} {M : Mx} (h : Upper n k M) (hk : k ≤ p) (hp : p < n) : Upper n k (swapR k p M) := by
  refine ⟨fun i j hi hj hji => ?_, fun i hi => ?_⟩
  · unfold swapR
    by_cases e1 : i = k
    · rw [if_pos e1]; exact h.1 p j hp hj (by omega)
    · rw [if_neg e1]
      by_cases e2 : i = p
      · rw [if_pos e2]; exact h.1 k j (by omega) hj hj
      · rw [if_neg e2]; exact h.1 i j hi hj hji
  · unfold swapR
    rw [if_neg (by omega), if_neg (by omega)]
    exact h.2 i hi
theorem mixR_row (t k : Nat) (x y : UInt8) (M : Mx) : (fun r => if r = t then mixR t k x y M t else M r) = mixR t k x y M := by
  funext r q
  by_cases e : r = t
  · subst e; rw [if_pos rfl]
  · rw [if_neg e]; unfold mixR; rw [if_neg e]
def Elim (n k i : Nat) (A M : Mx) : Prop := SameKer n A M ∧ Upper n k M ∧ M k k ≠ 0 ∧ ∀ r, k < r → r < i → M r k = 0
theorem Elim.step {n k i : Nat} {A M : Mx} (h : Elim n k i A M) (hk : k < i) (hi : i < n) : Elim n k (i + 1) A (mixR i k (M k k) (M i k) M) := by
  obtain ⟨h1, h2, h3, h4⟩ := h
  refine ⟨h1.mix hi (by omega) (by omega) h3, ⟨fun r j hr hj hjr => ?_, fun r hr => ?_⟩, ?_, fun r hr hri => ?_⟩
  · unfold mixR
    by_cases e : r = i
    · rw [if_pos e, ← e, h2.1 r j hr hj hjr, h2.1 k j (by omega) hj hj, gmul_zero_l, gmul_zero_l]; rfl
    · rw [if_neg e]; exact h2.1 r j hr hj hjr
  · unfold mixR
    rw [if_neg (by omega)]
    exact h2.2 r hr
  · unfold mixR
    rw [if_neg (by omega)]
    exact h3
  · unfold mixR
    by_cases e : r = i
    · rw [if_pos e, gmul_comm, xx]
    · rw [if_neg e]; exact h4 r hr (by omega)
theorem Elim.done {n k : Nat} {A M : Mx} (h : Elim n k n A M) (hk : k < n) : SameKer n A M ∧ Upper n (k + 1) M := by
  obtain ⟨h1, h2, h3, h4⟩ := h
  refine ⟨h1, fun i j hi hj hji => ?_, fun i hi => ?_⟩
  · by_cases e : j = k
    · subst e; exact h4 i hji hi
    · exact h2.1 i j hi (by omega) hji
  · by_cases e : i = k
    · subst e; exact h3
    · exact h2.2 i (by omega)
def RFull (n base : Nat) (A : Mx) (w : World) (e : Ending) (w' : World) : Prop := ∃ b : Bool, e = .returned (.bool b) ∧ (b = true → NoKer n A) ∧ (b = false → HasKer n A) ∧ Below base w w'
theorem AT.putRow {w : World} {base g n c : Nat} {L : List (List UInt8)} (h : AT w base (.slice (some ⟨g, 0, none⟩) n c) L) (hn : 0 < n) {A2 : Option Addr} {c2 : Nat} {l2 : List UInt8} (hh : RowOk w base A2 c2 l2) (i : Nat) (u : Value) : RowOk (w.setCell ⟨g, i, none⟩ u) base A2 c2 l2 := by
  have hl := h.width
  obtain ⟨rows, h1, h2, h3⟩ := h
  obtain ⟨g', c'', e, q1, q2, q3, q4, -, q6, q7, q8⟩ := row_at h1 (by omega)
  injection e with e1 e2 e3
  injection e1 with e1
  injection e1 with e1
  subst e1
  rcases hh with hh | ⟨hh, r1, r2⟩
  · refine .inl (row_keep hh (fun k hk => ?_))
    have hne := row_ne2 h1 hh (by decide) k hk
    exact blk_other (fun e => hne (by rw [e]; rfl)) i _
  · exact .inr ⟨Reads.setCell (p := ⟨g, i, none⟩) hh q3 _, r1, r2⟩
set_option maxHeartbeats 16000000 in
set_option maxRecDepth 20000 in
theorem rfull_any (A : Option Addr) (n c : Nat) (L : List (List UInt8)) (hc : n ≤ c) (h1 : 1 ≤ n) (h32 : n ≤ 32) (hLt : L = tabM n n (ent L)) (w : World) (h : RT w w.heap.size A n L) :
    Calls Try.prog 35 #[.slice A n c] w (RFull n w.heap.size (ent L) w) := by
  have hlen : ∀ (i : Nat) (l : List UInt8), L[i]? = some l → l.length ≤ 1000000 := fun i l hl => by
    rw [hLt] at hl
    have hi := (List.getElem?_eq_some_iff.mp hl).1
    rw [tabM_length] at hi
    rw [tabM_get hi] at hl
    injection hl with hl
    rw [← hl, row_length]; omega
  have i1 := Lib.hid (rcopy_any A n c L (by omega) hlen w h)
  obtain ⟨AA, hAA⟩ : ∃ AA, ent L = AA := ⟨_, rfl⟩
  rw [hAA] at hLt ⊢
  have hK0 : Hid (SameKer n AA AA ∧ Upper n 0 AA) := Lib.hid ⟨SameKer.refl n AA, fun i j hi hj => absurd hj (by omega), fun i hi => absurd hi (by omega)⟩
  replace hAA := Lib.hid hAA
  replace hLt := Lib.hid hLt
  clear h hlen
  go_enter Try.func35, Try.ntmps35
  go_wp2_with fail
  refine i1.out.mono ?_
  rintro e w1 ⟨A1, c1, rfl, hc1, hcm1, hat, hq⟩
  rw [hLt.out] at hat
  obtain ⟨g, ad0, c0, rfl, hgb, hgl, -⟩ := hat.at_ hq.size (i := 0) (by omega) (j := 0) (by omega)
  replace hat := Lib.hid hat
  replace hq := Lib.hid hq
  clear i1 hcm1 hgl hLt
  go_wp2_with fail
  go_loopw [5] (fun i wr => ∃ (k : Nat) (M : Mx), k ≤ n ∧ i = .int .i64 k ∧ Hid (AT wr w.heap.size (.slice (some ⟨g, 0, none⟩) n c1) (tabM n n M)) ∧ Hid (Below w.heap.size w wr) ∧ Hid (SameKer n AA M ∧ Upper n k M)) (fun i _ => n - (intOf i).toNat)
  case atStart => exact ⟨0, AA, Nat.zero_le _, rfl, hat, hq, hK0⟩
  case round =>
    obtain ⟨k, M, hk, rfl, hat1, hq1, hM⟩ := hrel
    clear hat hq hK0
    obtain ⟨wo, hwo⟩ : ∃ wo, wo = wr := ⟨_, rfl⟩
    subst hwo
    by_cases hlt : k < n
    · have ik : (k : Int) < (n : Int) := by omega
      have h0 : Hid (∀ r, k ≤ r → r < k → M r k = 0) := Lib.hid (fun r h1 h2 => absurd h2 (by omega))
      go_wp2_with fail
      go_loop [6, 7] (fun v i => ∃ (z : Int) (r : Nat), k ≤ r ∧ r ≤ n ∧ v = .int .i64 z ∧ i = .int .i64 r ∧ Hid ((z = -1 ∧ ∀ r', k ≤ r' → r' < r → M r' k = 0) ∨ ∃ p : Nat, z = p ∧ k ≤ p ∧ p < n ∧ M p k ≠ 0)) (fun _ i => n - (intOf i).toNat)
      case atStart => exact ⟨-1, k, Nat.le_refl _, hk, rfl, rfl, Lib.hid (.inl ⟨rfl, h0.out⟩)⟩
      case round =>
        obtain ⟨z, r, hr1, hr2, rfl, rfl, hz⟩ := hrel
        clear h0
        by_cases hlr : r < n
        · have ir : (r : Int) < (n : Int) := by omega
          obtain ⟨ad, c', -, -, x1, -, hcc, -, x2⟩ := hat1.out.at2 hq1.out.size hlr hlt
          have x3 := (x2 k hlt).2
          have ic : (k : Int) < (n : Int) := ik
          clear x2
          obtain ⟨x, hx⟩ : ∃ x, M r k = x := ⟨_, rfl⟩
          rw [hx] at x3
          by_cases hx0 : x = 0
          · subst hx0
            have hz' : Hid ((z = -1 ∧ ∀ r', k ≤ r' → r' < r + 1 → M r' k = 0) ∨ ∃ p : Nat, z = p ∧ k ≤ p ∧ p < n ∧ M p k ≠ 0) := Lib.hid (by
              rcases hz.out with ⟨e, h⟩ | h
              · refine .inl ⟨e, fun r' h1 h2 => ?_⟩
                by_cases e : r' = r
                · subst e; exact hx
                · exact h r' h1 (by omega)
              · exact .inr h)
            replace hx := Lib.hid hx
            have e1 : (U 0 == 0) = true := rfl
            have e2 : ((0 : UInt8) != 0) = false := rfl
            go_wp2_with fail
            go_round
            case rel => first | exact ⟨z, r + 1, by omega, by omega, rfl, by go_num, hz'⟩ | ((repeat apply Exists.intro); exact ⟨⟨z, r + 1, by omega, by omega, rfl, by go_num, hz'⟩, rfl⟩)
            case measure => simp [intOf]; omega
          · have hz' : Hid (((r : Int) = -1 ∧ ∀ r', k ≤ r' → r' < r + 1 → M r' k = 0) ∨ ∃ p : Nat, (r : Int) = p ∧ k ≤ p ∧ p < n ∧ M p k ≠ 0) := Lib.hid (.inr ⟨r, rfl, hr1, hlr, by rw [hx]; exact hx0⟩)
            replace hx := Lib.hid hx
            have e2 : (x != 0) = true := by simpa using hx0
            have hx1 := Lib.hid hx0
            clear hx0
            go_wp2_with fail
            go_round
            case rel => first | exact ⟨r, r + 1, by omega, by omega, rfl, by go_num, hz'⟩ | ((repeat apply Exists.intro); exact ⟨⟨r, r + 1, by omega, by omega, rfl, by go_num, hz'⟩, rfl⟩)
            case measure => simp [intOf]; omega
        · obtain rfl : r = n := by omega
          rcases hz.out with ⟨rfl, hz0⟩ | ⟨p, rfl, hkp, hp, hpx⟩
          · have hker : Hid (HasKer r AA) := Lib.hid (hM.out.1.hasKer (upper_stuck hM.out.2 hlt (fun i h1 h2 => hz0 i h1 h2)))
            clear hz hz0
            go_wp2_with fail
            go_ret
            exact ⟨false, rfl, fun h => (by cases h), fun _ => hker.out, hq1.out⟩
          · clear hz
            have d0 : decide ((p : Int) < 0) = false := decide_eq_false (by omega)
            obtain ⟨adk, ck, -, hgl, x1, xf1, hck, hrk, -⟩ := hat1.out.at2 hq1.out.size hlt hlt
            obtain ⟨adp, cp, -, -, x2, xf2, hcp, hrp, -⟩ := hat1.out.at2 hq1.out.size hp hlt
            have hA1 := hat1.out.put (tabM_length _ _ _) hp hrk
            rw [tabM_set hp, row_length] at hA1
            have hbs : Below w.heap.size w (wo.setCell ⟨g, p, none⟩ (.slice (some adk) r ck)) := hq1.out.setCell (p := ⟨g, p, none⟩) hgb _
            have hrp1 : RowOk (wo.setCell ⟨g, p, none⟩ (.slice (some adk) r ck)) w.heap.size (some adp) cp (row r (M p)) := hat1.out.putRow (by omega) hrp p (.slice (some adk) r ck)
            have hA2 := hA1.put (tabM_length _ _ _) hlt hrp1
            rw [tabM_set hlt, row_length] at hA2
            obtain ⟨v3, c3, x3⟩ : ∃ v3 c3, (wo.setCell ⟨g, p, none⟩ (.slice (some adk) r ck)).cell? ⟨g, k, none⟩ = some (.slice v3 r c3) := by
              obtain ⟨ad3, c3, -, -, x3, -⟩ := hA1.at2 hbs.size hlt hlt
              exact ⟨_, _, x3⟩
            have xf3 : (wo.setCell ⟨g, p, none⟩ (.slice (some adk) r ck)).frozen? ⟨g, k, none⟩ = false := by
              obtain ⟨ad3, c3, -, -, -, x3, -⟩ := hA1.at2 hbs.size hlt hlt
              exact x3
            have hq2 : Below w.heap.size w ((wo.setCell ⟨g, p, none⟩ (.slice (some adk) r ck)).setCell ⟨g, k, none⟩ (.slice (some adp) r cp)) := hbs.setCell (p := ⟨g, k, none⟩) hgb _
            have hE : Hid (Elim r k (k + 1) AA (swapR k p M)) := Lib.hid ⟨hM.out.1.swap hlt hp, hM.out.2.swap hkp hp, by unfold swapR; rw [if_pos rfl]; exact hpx, fun r' h1 h2 => absurd h2 (by omega)⟩
            clear hA1 hrk hrp hrp1 hbs
            replace hA2 := Lib.hid hA2
            replace hq2 := Lib.hid hq2
            replace hpx := Lib.hid hpx
            have ip : (p : Int) < (r : Int) := by omega
            go_wp2_with fail
            clear x1 x2 x3 xf1 xf2 xf3
            obtain ⟨w2, hw2⟩ : ∃ x, (wo.setCell ⟨g, p, none⟩ (.slice (some adk) r ck)).setCell ⟨g, k, none⟩ (.slice (some adp) r cp) = x := ⟨_, rfl⟩
            rw [hw2] at hA2 hq2 ⊢
            replace hw2 := Lib.hid hw2
            obtain ⟨M2, hM2⟩ : ∃ M2, swapR k p M = M2 := ⟨_, rfl⟩
            have hA3 : Hid (AT w2 w.heap.size (.slice (some ⟨g, 0, none⟩) r c1) (tabM r r M2)) := Lib.hid (by rw [← hM2]; exact hA2.out)
            rw [hM2] at hE
            replace hM2 := Lib.hid hM2
            clear hA2 hat1 hq1 hM
            go_loopw [9] (fun i wr => ∃ (t : Nat) (Mt : Mx), k + 1 ≤ t ∧ t ≤ r ∧ i = .int .i64 t ∧ Hid (AT wr w.heap.size (.slice (some ⟨g, 0, none⟩) r c1) (tabM r r Mt)) ∧ Hid (Below w.heap.size w wr) ∧ Hid (Elim r k t AA Mt)) (fun i _ => r - (intOf i).toNat)
            case atStart => exact ⟨k + 1, M2, Nat.le_refl _, by omega, by go_num, hA3, hq2, hE⟩
            case round =>
              obtain ⟨t, Mt, ht1, ht2, rfl, hat4, hq4, hE4⟩ := hrel
              clear hA3 hq2 hE
              obtain ⟨wi, hwi⟩ : ∃ wi, wi = wr := ⟨_, rfl⟩
              subst hwi
              by_cases hlt2 : t < r
              · have it : (t : Int) < (r : Int) := by omega
                obtain ⟨adk, ck, -, -, x1, -, hck, -, y1⟩ := hat4.out.at2 hq4.out.size hlt hlt
                obtain ⟨adt, ct, -, -, x2, -, hct, -, y2⟩ := hat4.out.at2 hq4.out.size hlt2 hlt
                have z1 := (y1 k hlt).2
                have z2 := (y2 k hlt).2
                obtain ⟨x, hx⟩ : ∃ x, Mt k k = x := ⟨_, rfl⟩
                obtain ⟨y, hy⟩ : ∃ y, Mt t k = y := ⟨_, rfl⟩
                have hE5 := hE4.out.step (by omega) hlt2
                rw [hx, hy] at hE5
                replace hE5 := Lib.hid hE5
                rw [hx] at z1
                rw [hy] at z2
                replace hx := Lib.hid hx
                replace hy := Lib.hid hy
                replace y1 := Lib.hid y1
                replace y2 := Lib.hid y2
                go_wp2_with fail
                go_quiet (fail)
                rename_i nq
                obtain ⟨wd, hwd⟩ : ∃ wd, wi.drewN nq = wd := ⟨_, rfl⟩
                have hbb : Below wi.heap.size wi wd := by rw [← hwd]; exact belowN (Below.refl _ _) nq
                have hat5 := Lib.hid (hat4.out.below hbb hq4.out.size)
                have hq5 := Lib.hid (hq4.out.trans (hbb.mono hq4.out.size))
                rw [hwd]
                replace hwd := Lib.hid hwd
                clear hbb x1 x2 z1 z2 y1 y2 hat4 hq4 hE4
                have hrow := Lib.hid (OB.empty wd wd.heap.size (Nat.le_refl _))
                have hb1 := Lib.hid ((Below.refl wd.heap.size wd).alloc (Nat.le_refl _) (.cells #[] 5))
                have hwsz : w.heap.size ≤ wd.heap.size := hq5.out.size
                go_wp2_with fail
                obtain ⟨w4, hw4⟩ : ∃ w4, wd.alloc (.cells #[] 5) = w4 := ⟨_, rfl⟩
                rw [hw4] at hrow hb1 ⊢
                replace hw4 := Lib.hid hw4
                go_loopw [12, 13] (fun v i wj => ∃ (j : Nat) (A4 : Option Addr) (c4 : Nat), j ≤ r ∧ i = .int .i64 j ∧ v = .slice A4 j c4 ∧ Hid (OB wj wd.heap.size (.slice A4 j c4) (row j (mixR t k x y Mt t))) ∧ Hid (Below wd.heap.size wd wj)) (fun _ i _ => r - (intOf i).toNat)
                case atStart => exact ⟨0, _, _, Nat.zero_le _, rfl, rfl, hrow, hb1⟩
                case round =>
                  obtain ⟨j, A4, c4, hj, rfl, rfl, hrow2, hb2⟩ := hrel
                  clear hrow hb1
                  obtain ⟨wj, hwj⟩ : ∃ wj, wj = wr := ⟨_, rfl⟩
                  subst hwj
                  have hat6 := Lib.hid (hat5.out.below hb2.out hwsz)
                  have hq6 := Lib.hid (hq5.out.trans (hb2.out.mono hwsz))
                  by_cases hlj : j < r
                  · have ij : (j : Int) < (r : Int) := by omega
                    go_wp2_with fail
                    obtain ⟨we, hwe⟩ : ∃ we, wj.drew = we := ⟨_, rfl⟩
                    have hbb : Below wj.heap.size wj we := by rw [← hwe]; exact (Below.refl _ _).drew
                    have hrow3 := Lib.hid (hrow2.out.below (hbb))
                    have hb3 := Lib.hid (hb2.out.trans (hbb.mono hb2.out.size))
                    obtain ⟨adk, ck, -, gk, zk1, -, hck, -, y1⟩ := hat5.out.at2 hq5.out.size hlt hlt
                    obtain ⟨adt, ct, -, gt, zi1, -, hct, -, y2⟩ := hat5.out.at2 hq5.out.size hlt2 hlt
                    have zk2 := y1 j hlj
                    have zi2 := y2 j hlj
                    have hrd : Hid (∀ w', Below wd.heap.size we w' → w'.cell? ⟨g, k, none⟩ = some (.slice (some adk) r ck) ∧ w'.cell? ⟨g, t, none⟩ = some (.slice (some adt) r ct) ∧ w'.cell? (adk.add j) = some (.int .u8 (U (Mt k j))) ∧ w'.cell? (adt.add j) = some (.int .u8 (U (Mt t j)))) := Lib.hid (fun w' h => by
                      have hh := hb3.out.trans h
                      exact ⟨(hh.cell (p := ⟨g, k, none⟩) gk).trans zk1, (hh.cell (p := ⟨g, t, none⟩) gt).trans zi1, (hh.cell zk2.1).trans zk2.2, (hh.cell zi2.1).trans zi2.2⟩)
                    clear y1 y2 hbb zk1 zi1 zk2 zi2 gk gt
                    obtain ⟨u, hu⟩ : ∃ u, gmul (Mt t j) x ^^^ gmul (Mt k j) y = u := ⟨_, rfl⟩
                    have hres : Hid (mixR t k x y Mt t j = u) := Lib.hid (by unfold mixR; rw [if_pos rfl]; exact hu)
                    replace hu := Lib.hid hu
                    have hlit := Lib.hid (Rd.lit we #[.int .u8 (U u)] 5 [u] rfl ((we.alloc (.cells #[.int .u8 (U u)] 5)).heap.size) (by simp))
                    have ho7 := Lib.hid (hrow3.out.alloc (.cells #[.int .u8 (U u)] 5))
                    have hb7 := Lib.hid (hb3.out.alloc hb3.out.size (.cells #[.int .u8 (U u)] 5))
                    clear hat6 hq6 hrow2 hb2
                    refine wpR_region (Below wd.heap.size) 9999 (by kernel_rfl) ?_
                    (rw [hwe]; replace hwe := Lib.hid hwe)
                    refine wpR_take (i := 0) (v := ?_) (⟨fun x => Below.refl _ x, fun h1 h2 => h1.trans h2⟩) (some 82) rfl (by kernel_rfl) (by kernel_rfl) (by kernel_rfl) (by kernel_rfl) (by kernel_rfl) (fun _ _ _ h => h) (by kernel_rfl) (fun w' hw' => ?_) ?_
                    rotate_left
                    · go_simp; with_reducible rfl
                    simp only [Act.put, List.setIfInBounds_toArray, List.set_cons_zero, List.set_cons_succ]
                    refine wpR_take (i := 1) (v := ?_) (⟨fun x => Below.refl _ x, fun h1 h2 => h1.trans h2⟩) (some 83) rfl (by kernel_rfl) (by kernel_rfl) (by kernel_rfl) (by kernel_rfl) (by kernel_rfl) (fun _ _ _ h => h) (by kernel_rfl) (fun w' hw' => ?_) ?_
                    rotate_left
                    · go_simp; with_reducible rfl
                    simp only [Act.put, List.setIfInBounds_toArray, List.set_cons_zero, List.set_cons_succ]
                    refine wpR_take (i := 2) (v := ?_) (⟨fun x => Below.refl _ x, fun h1 h2 => h1.trans h2⟩) (some 84) rfl (by kernel_rfl) (by kernel_rfl) (by kernel_rfl) (by kernel_rfl) (by kernel_rfl) (fun _ _ _ h => h) (by kernel_rfl) (fun w' hw' => ?_) ?_
                    rotate_left
                    · go_simp; with_reducible rfl
                    simp only [Act.put, List.setIfInBounds_toArray, List.set_cons_zero, List.set_cons_succ]
                    refine wpR_take (i := 3) (v := ?_) (⟨fun x => Below.refl _ x, fun h1 h2 => h1.trans h2⟩) (some 85) rfl (by kernel_rfl) (by kernel_rfl) (by kernel_rfl) (by kernel_rfl) (by kernel_rfl) (fun _ _ _ h => h) (by kernel_rfl) (fun w' hw' => ?_) ?_
                    rotate_left
                    · go_simp; with_reducible rfl
                    simp only [Act.put, List.setIfInBounds_toArray, List.set_cons_zero, List.set_cons_succ]
                    refine wpR_take (i := 4) (v := ?_) (⟨fun x => Below.refl _ x, fun h1 h2 => h1.trans h2⟩) (some 86) rfl (by kernel_rfl) (by kernel_rfl) (by kernel_rfl) (by kernel_rfl) (by kernel_rfl) (fun _ _ _ h => h) (by kernel_rfl) (fun w' hw' => ?_) ?_
                    rotate_left
                    · obtain ⟨z1, z2, z3, z4⟩ := hrd.out w' hw'; go_simp; with_reducible rfl
                    simp only [Act.put, List.setIfInBounds_toArray, List.set_cons_zero, List.set_cons_succ]
                    refine wpR_take (i := 5) (v := ?_) (⟨fun x => Below.refl _ x, fun h1 h2 => h1.trans h2⟩) (some 87) rfl (by kernel_rfl) (by kernel_rfl) (by kernel_rfl) (by kernel_rfl) (by kernel_rfl) (fun _ _ _ h => h) (by kernel_rfl) (fun w' hw' => ?_) ?_
                    rotate_left
                    · go_simp; with_reducible rfl
                    simp only [Act.put, List.setIfInBounds_toArray, List.set_cons_zero, List.set_cons_succ]
                    refine wpR_take (i := 6) (v := ?_) (⟨fun x => Below.refl _ x, fun h1 h2 => h1.trans h2⟩) (some 88) rfl (by kernel_rfl) (by kernel_rfl) (by kernel_rfl) (by kernel_rfl) (by kernel_rfl) (fun _ _ _ h => h) (by kernel_rfl) (fun w' hw' => ?_) ?_
                    rotate_left
                    · go_simp; with_reducible rfl
                    simp only [Act.put, List.setIfInBounds_toArray, List.set_cons_zero, List.set_cons_succ]
                    refine wpR_take (i := 7) (v := ?_) (⟨fun x => Below.refl _ x, fun h1 h2 => h1.trans h2⟩) (some 89) rfl (by kernel_rfl) (by kernel_rfl) (by kernel_rfl) (by kernel_rfl) (by kernel_rfl) (fun _ _ _ h => h) (by kernel_rfl) (fun w' hw' => ?_) ?_
                    rotate_left
                    · obtain ⟨z1, z2, z3, z4⟩ := hrd.out w' hw'; go_simp; with_reducible rfl
                    simp only [Act.put, List.setIfInBounds_toArray, List.set_cons_zero, List.set_cons_succ]
                    refine wpR_take (i := 8) (v := ?_) (⟨fun x => Below.refl _ x, fun h1 h2 => h1.trans h2⟩) (some 90) rfl (by kernel_rfl) (by kernel_rfl) (by kernel_rfl) (by kernel_rfl) (by kernel_rfl) (fun _ _ _ h => h) (by kernel_rfl) (fun w' hw' => ?_) ?_
                    rotate_left
                    · go_simp; with_reducible rfl
                    simp only [Act.put, List.setIfInBounds_toArray, List.set_cons_zero, List.set_cons_succ]
                    refine wpR_take (i := 10) (v := ?_) (⟨fun x => Below.refl _ x, fun h1 h2 => h1.trans h2⟩) (some 92) rfl (by kernel_rfl) (by kernel_rfl) (by kernel_rfl) (by kernel_rfl) (by kernel_rfl) (fun _ _ _ h => h) (by kernel_rfl) (fun w' hw' => ?_) ?_
                    rotate_left
                    · go_simp; with_reducible rfl
                    simp only [Act.put, List.setIfInBounds_toArray, List.set_cons_zero, List.set_cons_succ]
                    refine wpR_take (i := 11) (v := ?_) (⟨fun x => Below.refl _ x, fun h1 h2 => h1.trans h2⟩) (some 93) rfl (by kernel_rfl) (by kernel_rfl) (by kernel_rfl) (by kernel_rfl) (by kernel_rfl) (fun _ _ _ h => h) (by kernel_rfl) (fun w' hw' => ?_) ?_
                    rotate_left
                    · go_simp; with_reducible rfl
                    simp only [Act.put, List.setIfInBounds_toArray, List.set_cons_zero, List.set_cons_succ]
                    refine wpR_take (i := 12) (v := ?_) (⟨fun x => Below.refl _ x, fun h1 h2 => h1.trans h2⟩) (some 94) rfl (by kernel_rfl) (by kernel_rfl) (by kernel_rfl) (by kernel_rfl) (by kernel_rfl) (fun _ _ _ h => h) (by kernel_rfl) (fun w' hw' => ?_) ?_
                    rotate_left
                    · go_simp; with_reducible rfl
                    simp only [Act.put, List.setIfInBounds_toArray, List.set_cons_zero, List.set_cons_succ]
                    refine wpR_take (i := 13) (v := ?_) (⟨fun x => Below.refl _ x, fun h1 h2 => h1.trans h2⟩) (some 95) rfl (by kernel_rfl) (by kernel_rfl) (by kernel_rfl) (by kernel_rfl) (by kernel_rfl) (fun _ _ _ h => h) (by kernel_rfl) (fun w' hw' => ?_) ?_
                    rotate_left
                    · obtain ⟨z1, z2, z3, z4⟩ := hrd.out w' hw'; go_simp; with_reducible rfl
                    simp only [Act.put, List.setIfInBounds_toArray, List.set_cons_zero, List.set_cons_succ]
                    refine wpR_take (i := 14) (v := ?_) (⟨fun x => Below.refl _ x, fun h1 h2 => h1.trans h2⟩) (some 96) rfl (by kernel_rfl) (by kernel_rfl) (by kernel_rfl) (by kernel_rfl) (by kernel_rfl) (fun _ _ _ h => h) (by kernel_rfl) (fun w' hw' => ?_) ?_
                    rotate_left
                    · go_simp; with_reducible rfl
                    simp only [Act.put, List.setIfInBounds_toArray, List.set_cons_zero, List.set_cons_succ]
                    refine wpR_take (i := 15) (v := ?_) (⟨fun x => Below.refl _ x, fun h1 h2 => h1.trans h2⟩) (some 97) rfl (by kernel_rfl) (by kernel_rfl) (by kernel_rfl) (by kernel_rfl) (by kernel_rfl) (fun _ _ _ h => h) (by kernel_rfl) (fun w' hw' => ?_) ?_
                    rotate_left
                    · go_simp; with_reducible rfl
                    simp only [Act.put, List.setIfInBounds_toArray, List.set_cons_zero, List.set_cons_succ]
                    refine wpR_take (i := 16) (v := ?_) (⟨fun x => Below.refl _ x, fun h1 h2 => h1.trans h2⟩) (some 98) rfl (by kernel_rfl) (by kernel_rfl) (by kernel_rfl) (by kernel_rfl) (by kernel_rfl) (fun _ _ _ h => h) (by kernel_rfl) (fun w' hw' => ?_) ?_
                    rotate_left
                    · obtain ⟨z1, z2, z3, z4⟩ := hrd.out w' hw'; go_simp; with_reducible rfl
                    simp only [Act.put, List.setIfInBounds_toArray, List.set_cons_zero, List.set_cons_succ]
                    refine wpR_take (i := 17) (v := ?_) (⟨fun x => Below.refl _ x, fun h1 h2 => h1.trans h2⟩) (some 99) rfl (by kernel_rfl) (by kernel_rfl) (by kernel_rfl) (by kernel_rfl) (by kernel_rfl) (fun _ _ _ h => h) (by kernel_rfl) (fun w' hw' => ?_) ?_
                    rotate_left
                    · go_simp; with_reducible rfl
                    simp only [Act.put, List.setIfInBounds_toArray, List.set_cons_zero, List.set_cons_succ]
                    refine wpR_one 9 rfl (by kernel_rfl) (by kernel_rfl) (fun K hK => ?_)
                    go_simp
                    refine (rmul_any _ _ _).mono ?_
                    rintro e w' ⟨rfl, rfl⟩
                    refine hK _ _ (fun _ => Below.refl _ _) ?_
                    clear hK K
                    try simp only [Act.put, List.setIfInBounds_toArray, List.set_cons_zero, List.set_cons_succ]
                    refine wpR_one 18 rfl (by kernel_rfl) (by kernel_rfl) (fun K hK => ?_)
                    go_simp
                    refine (rmul_any _ _ _).mono ?_
                    rintro e w' ⟨rfl, rfl⟩
                    refine hK _ _ (fun _ => Below.refl _ _) ?_
                    clear hK K
                    try simp only [Act.put, List.setIfInBounds_toArray, List.set_cons_zero, List.set_cons_succ]
                    refine wpR_take (i := 19) (v := ?_) (⟨fun x => Below.refl _ x, fun h1 h2 => h1.trans h2⟩) (some 101) rfl (by kernel_rfl) (by kernel_rfl) (by kernel_rfl) (by kernel_rfl) (by kernel_rfl) (fun _ _ _ h => h) (by kernel_rfl) (fun w' hw' => ?_) ?_
                    rotate_left
                    · go_simp; with_reducible rfl
                    simp only [Act.put, List.setIfInBounds_toArray, List.set_cons_zero, List.set_cons_succ]
                    refine wpR_one 20 rfl (by kernel_rfl) (by kernel_rfl) (fun K hK => ?_)
                    go_simp
                    simp only [hu.out]
                    refine hK _ _ (fun _ => (Below.refl _ _).alloc hb3.out.size _) ?_
                    clear hK K
                    try simp only [Act.put, List.setIfInBounds_toArray, List.set_cons_zero, List.set_cons_succ]
                    refine wpR_one 21 rfl (by kernel_rfl) (by kernel_rfl) (fun K hK => ?_)
                    refine wpo_append rfl (.tmp 82) (.tmp 102) rfl wd.heap.size (.slice A4 j c4) (row j (mixR t k x y Mt t)) rfl ho7.out _ _ 1 [u] rfl hlit.out (by rw [row_length]; simp; omega) hb7.out.size ?_
                    intro v8 w8 ho8 hg8 _
                    have hb8 := Lib.hid (below_row ho7.out hb7.out hb7.out.size hg8)
                    have hb9 : Below wd.heap.size _ w8 := below_row ho7.out (Below.refl _ _) hb7.out.size hg8
                    rw [← hres.out, row_snoc] at ho8
                    obtain ⟨A8, c8, rfl, -, -, -, -⟩ := ho8.form
                    rw [row_length] at ho8 ⊢
                    replace ho8 := Lib.hid ho8
                    clear hg8
                    refine hK _ _ (fun _ => hb9) ?_
                    clear hK K
                    clear hb9
                    try simp only [Act.put, List.setIfInBounds_toArray, List.set_cons_zero, List.set_cons_succ]
                    refine wpR_take (i := 22) (v := ?_) (⟨fun x => Below.refl _ x, fun h1 h2 => h1.trans h2⟩) (some 12) rfl (by kernel_rfl) (by kernel_rfl) (by kernel_rfl) (by kernel_rfl) (by kernel_rfl) (fun _ _ _ h => h) (by kernel_rfl) (fun w' hw' => ?_) ?_
                    rotate_left
                    · go_simp; with_reducible rfl
                    simp only [Act.put, List.setIfInBounds_toArray, List.set_cons_zero, List.set_cons_succ]
                    refine wpR_done (by kernel_rfl) ?_ _
                    go_wp2_with fail
                    go_roundw
                    case rel => exact ⟨j + 1, A8, c8, by omega, by go_num, rfl, ho8, hb8⟩
                    case measure => simp [intOf]; omega
                  · obtain rfl : j = r := by omega
                    have ij : decide ((j : Int) < (j : Int)) = false := decide_eq_false (by omega)
                    obtain ⟨adt, ct, -, -, zi1, zf1, -, -, -⟩ := hat6.out.at2 hq6.out.size hlt2 hlt
                    have hrok : RowOk wj w.heap.size A4 c4 (row j (mixR t k x y Mt t)) := .inl (by rw [row_length]; exact hrow2.out.more hwsz)
                    have hA8 := hat6.out.put (tabM_length _ _ _) hlt2 hrok
                    rw [tabM_set hlt2, row_length, mixR_row] at hA8
                    replace hA8 := Lib.hid hA8
                    have hq8 := Lib.hid (hq6.out.setCell (p := ⟨g, t, none⟩) hgb (.slice A4 j c4))
                    clear hrok
                    go_wp2_with fail
                    go_roundw
                    case rel => first | exact ⟨t + 1, _, by omega, by omega, by go_num, hA8, hq8, hE5⟩ | ((repeat apply Exists.intro); exact ⟨⟨t + 1, _, by omega, by omega, by go_num, hA8, hq8, hE5⟩, rfl⟩)
                    case measure => simp [intOf]; omega
              · obtain rfl : t = r := by omega
                have hfin := Lib.hid (hE4.out.done hlt)
                have it : decide ((t : Int) < (t : Int)) = false := decide_eq_false (by omega)
                go_wp2_with fail
                go_roundw
                case rel => first | exact ⟨k + 1, Mt, by omega, by go_num, hat4, hq4, hfin⟩ | ((repeat apply Exists.intro); exact ⟨⟨k + 1, Mt, by omega, by go_num, hat4, hq4, hfin⟩, rfl⟩)
                case measure => simp [intOf]; omega
    · obtain rfl : k = n := by omega
      have hker : Hid (NoKer k AA) := Lib.hid (hM.out.1.noKer (upper_noKer hM.out.2))
      go_wp2_with fail
      go_ret
      exact ⟨true, rfl, fun _ => hker.out, fun h => (by cases h), hq1.out⟩
end Go.Proofs.Ytpeilgeloaogfaa
