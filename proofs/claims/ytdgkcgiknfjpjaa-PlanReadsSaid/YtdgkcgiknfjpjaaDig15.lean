/- dig: the reference's digest. -/
import Derived.Test.YtdgkcgiknfjpjaaDigC
namespace Go.Proofs.Ytdgkcgiknfjpjaa
set_option linter.unusedVariables false
set_option linter.unusedSimpArgs false
open Go Go.RowKit
theorem blkB_at (l : List UInt8) (n al k j : Nat) (hl : l.length = n) (ha : allN n = al) (h : k * 64 + j < al) : blkB (msg l) k j = atF l al (k * 64 + j) := by
  subst hl
  subst ha
  unfold blkB msg
  rw [List.getD_eq_getElem?_getD, row_get h]
  rfl
/-- the reference's state, ring and round -/
structure St (w0 wr : World) (g gw gx : Nat) (s r x : Nat → BitVec 32) : Prop where
  h : Av wr g 8 s
  w : Av wr gw 16 r
  x : Av wr gx 8 x
  q : Below g w0 wr
  o1 : g < gw
  o2 : gw < gx
theorem St.gr {w0 wr wr' : World} {g gw gx : Nat} {s r x : Nat → BitVec 32} (hr : Gr wr wr') (h : Hid (St w0 wr g gw gx s r x)) : Hid (St w0 wr' g gw gx s r x) :=
  Lib.hid ⟨h.out.h.below hr h.out.h.lt, h.out.w.below hr h.out.w.lt, h.out.x.below hr h.out.x.lt, h.out.q.trans (Below.mono hr (Nat.le_of_lt h.out.h.lt)), h.out.o1, h.out.o2⟩
theorem St.drew {w0 wr : World} {g gw gx : Nat} {s r x : Nat → BitVec 32} (h : St w0 wr g gw gx s r x) : St w0 wr.drew g gw gx s r x := ⟨h.h.other rfl, h.w.other rfl, h.x.other rfl, h.q.drew, h.o1, h.o2⟩
theorem St.setW {w0 wr : World} {g gw gx : Nat} {s r x : Nat → BitVec 32} (h : St w0 wr g gw gx s r x) {i : Nat} (hi : i < 16) (y : BitVec 32) : St w0 (wr.setCell ⟨gw, i, none⟩ (.int .u32 (W y))) g gw gx s (fun k => if k = i then y else r k) x :=
  ⟨h.h.setCell_other (Nat.ne_of_lt h.o1) _ _, h.w.set hi y, h.x.setCell_other (Nat.ne_of_gt h.o2) _ _, below_setCells (b := gw) h.q (Nat.le_of_lt h.o1) i [.int .u32 (W y)], h.o1, h.o2⟩
theorem St.setX {w0 wr : World} {g gw gx : Nat} {s r x : Nat → BitVec 32} (h : St w0 wr g gw gx s r x) {i : Nat} (hi : i < 8) (y : BitVec 32) : St w0 (wr.setCell ⟨gx, i, none⟩ (.int .u32 (W y))) g gw gx s r (fun k => if k = i then y else x k) :=
  ⟨h.h.setCell_other (Nat.ne_of_lt (Nat.lt_trans h.o1 h.o2)) _ _, h.w.setCell_other (Nat.ne_of_lt h.o2) _ _, h.x.set hi y, below_setCells (b := gx) h.q (Nat.le_of_lt (Nat.lt_trans h.o1 h.o2)) i [.int .u32 (W y)], h.o1, h.o2⟩
theorem St.setH {w0 wr : World} {g gw gx : Nat} {s r x : Nat → BitVec 32} (h : St w0 wr g gw gx s r x) {i : Nat} (hi : i < 8) (y : BitVec 32) : St w0 (wr.setCell ⟨g, i, none⟩ (.int .u32 (W y))) g gw gx (fun k => if k = i then y else s k) r x :=
  ⟨h.h.set hi y, h.w.setCell_other (Nat.ne_of_gt h.o1) _ _, h.x.setCell_other (Nat.ne_of_gt (Nat.lt_trans h.o1 h.o2)) _ _, below_setCells (b := g) h.q (Nat.le_refl _) i [.int .u32 (W y)], h.o1, h.o2⟩
theorem St.congr {w0 wr : World} {g gw gx : Nat} {s r x s' r' x' : Nat → BitVec 32} (h : St w0 wr g gw gx s r x) (es : ∀ k, k < 8 → s k = s' k) (er : ∀ k, k < 16 → r k = r' k) (ex : ∀ k, k < 8 → x k = x' k) : St w0 wr g gw gx s' r' x' :=
  ⟨h.h.congr es, h.w.congr er, h.x.congr ex, h.q, h.o1, h.o2⟩
/-- the ring while its place n is filled byte by byte -/
def rgI (b : Nat → UInt8) (n i j : Nat) : BitVec 32 := if j = n then part4 b (4 * n) i else rg b n j
theorem rgI_zero (b : Nat → UInt8) (n j : Nat) : rg b n j = rgI b n 0 j := by
  unfold rgI
  by_cases h : j = n
  · subst h; rw [if_pos rfl]; unfold rg; rw [if_neg (Nat.lt_irrefl _)]; rfl
  · rw [if_neg h]
theorem rgI_four (b : Nat → UInt8) {n j : Nat} (hn : n < 16) (hj : j < 16) : rgI b n 4 j = rg b (n + 1) j := by
  unfold rgI
  rw [rg_succ b hj, Nat.mod_eq_of_lt hn]
  by_cases h : j = n
  · rw [if_pos h, if_pos h, part4_four, wd_low b hn]
  · rw [if_neg h, if_neg h]
theorem rgI_succ (b : Nat → UInt8) (n i j : Nat) : (if j = n then part4 b (4 * n) i <<< 8 + zx32 (b (4 * n + i)) else rgI b n i j) = rgI b n (i + 1) j := by
  unfold rgI
  by_cases h : j = n
  · rw [if_pos h, if_pos h]; rfl
  · rw [if_neg h, if_neg h, if_neg h]
/-- eight words moved on from place i -/
def shf (x : Nat → BitVec 32) (i j : Nat) : BitVec 32 := if i < j then x (j - 1) else x j
theorem shf_seven (x : Nat → BitVec 32) {j : Nat} (h : j < 8) : x j = shf x 7 j := by unfold shf; rw [if_neg (by omega)]
theorem shf_pred (x : Nat → BitVec 32) (i j : Nat) (hi : 0 < i) : (if j = i then x (i - 1) else shf x i j) = shf x (i - 1) j := by
  unfold shf
  by_cases h : j = i
  · subst h; rw [if_pos rfl, if_pos (by omega)]
  · rw [if_neg h]
    by_cases h2 : i < j
    · rw [if_pos h2, if_pos (by omega)]
    · rw [if_neg h2, if_neg (by omega)]
theorem shf_nx (x : Nat → BitVec 32) (k w : BitVec 32) (o t : BitVec 32) (ho : o = one1 x k w) (ht : t = two2 x + mj3w (x 0) (x 1) (x 2)) (j : Nat) : (if j = 0 then o + t else if j = 4 then x 3 + o else shf x 0 j) = nx x k w j := by
  subst ho
  subst ht
  unfold nx
  by_cases h0 : j = 0
  · rw [if_pos h0, if_pos h0]
  · rw [if_neg h0, if_neg h0]
    by_cases h4 : j = 4
    · rw [if_pos h4, if_pos h4]
    · rw [if_neg h4, if_neg h4]
      unfold shf
      rw [if_pos (by omega)]
/-- the state, the first i words added -/
def hTo (s f : Nat → BitVec 32) (i k : Nat) : BitVec 32 := if k < i then blkS s f k else s k
theorem hTo_zero (s f : Nat → BitVec 32) (k : Nat) : s k = hTo s f 0 k := by unfold hTo; rw [if_neg (by omega)]
theorem hTo_succ (s f : Nat → BitVec 32) (i k : Nat) : (if k = i then s i + rnd s f 64 i else hTo s f i k) = hTo s f (i + 1) k := by
  unfold hTo
  by_cases h : k = i
  · subst h; rw [if_pos rfl, if_pos (by omega)]; unfold blkS; rw [BitVec.add_comm]
  · rw [if_neg h]
    by_cases h' : k < i
    · rw [if_pos h', if_pos (by omega)]
    · rw [if_neg h', if_neg (by omega)]
theorem hTo_eight (s f : Nat → BitVec 32) {k : Nat} (h : k < 8) : hTo s f 8 k = blkS s f k := by unfold hTo; rw [if_pos h]
theorem W_tdiv (x : BitVec 32) (j : Nat) : (W x).tdiv (2 ^ j) = W (x >>> j) := by
  rw [Int.tdiv_eq_ediv_of_nonneg (W_bd x).1]
  exact u32_shr x j
@[go_sem] theorem W_tdiv8 (x : BitVec 32) : (W x).tdiv 8 = W (x >>> 3) := W_tdiv x 3
@[go_sem] theorem W_tdiv1024 (x : BitVec 32) : (W x).tdiv 1024 = W (x >>> 10) := W_tdiv x 10
theorem run_make16 (w : World) : (Instr.makeSlice 110 (.int .i64 16) (.int .i64 16)).run Try.prog w = .ok (.slice (some ⟨w.heap.size, 0, none⟩) 16 16) (w.alloc (.cells (wcells 16 (fun _ => 0)).toArray 86)) := by
  obtain ⟨i0, hi, hz0, hz1, hz2⟩ := info_parts info_u32
  have h := run_make (P := Try.prog) w 110 86 i0 _ Try.underlying110 hi hz0 .i64 .i64 16 16 (by decide) (by decide) (by rw [hz2]; decide) (by decide)
  rw [hz1, show madeCells (Value.int .u32 0).cells (Int.toNat 16 * 1) = (wcells 16 (fun _ => 0)).toArray from by kernel_rfl] at h
  exact h
theorem sum_assoc (a b c d : BitVec 32) : a + (b + c + d) = a + b + c + d := by rw [BitVec.add_assoc, BitVec.add_assoc, BitVec.add_assoc]
set_option maxHeartbeats 16000000 in
set_option maxRecDepth 20000 in
theorem refOf_any (A : Option Addr) (n c : Nat) (l : List UInt8) (hl : Hid (l.length = n)) (hn : n ≤ 100000) (w : World) (h : Hid (Rd w w.heap.size A l)) :
    Calls Try.prog 46 #[.slice A n c] w fun e w' => e = .returned (.string (bs (dg l))) ∧ Gr w w' := by
  have hat : Hid (∀ q, q < allN n → ∀ w', Hid (Rd w' w'.heap.size A l) → Calls Try.prog 69 #[.slice A n c, .int .i64 q, .int .i64 (allN n)] w' fun e w'' => e = .returned (.int .u8 (U (atF l (allN n) q))) ∧ w'' = w') := Lib.hid (fun q hq w' hw' => at_any A n c l hl hn q hq w' hw')
  have hal : Hid (64 * ((n + 72) / 64) = allN n ∧ allN n ≤ n + 72) := Lib.hid (by unfold allN; omega)
  obtain ⟨al, hall⟩ : ∃ al, allN n = al := ⟨_, rfl⟩
  rw [hall] at hat hal
  replace hall := Lib.hid hall
  have hal2 : al ≤ 100100 := by have := hal.out; omega
  have hq0 : ((n : Int) + 72).tdiv 64 = (((n + 72) / 64 : Nat) : Int) := by rw [Int.tdiv_eq_ediv_of_nonneg (by omega)]; omega
  obtain ⟨q0, hq0'⟩ : ∃ q0, (n + 72) / 64 = q0 := ⟨_, rfl⟩
  rw [hq0'] at hq0 hal
  replace hq0' := Lib.hid hq0'
  have w1' : IntKind.i64.wrap ((n : Int) + 72) = (n : Int) + 72 := i64_wrap_id (by omega) (by omega)
  have w2' : IntKind.i64.wrap (64 * (q0 : Int)) = (al : Int) := by have := hal.out; rw [i64_wrap_id (by omega) (by omega)]; omega
  have w3' : wrap64 (q0 : Int) = (q0 : Int) := by have := hal.out; unfold wrap64; omega
  have w4' : wrap64 (64 * (q0 : Int)) = (al : Int) := by have := hal.out; unfold wrap64; omega
  have hA0 := (Ar.new w 86 8 h0F).av
  have hb0 : Below w.heap.size w (w.alloc (.cells (wcells 8 h0F).toArray 86)) := (Below.refl _ _).alloc (Nat.le_refl _) _
  go_enter Try.func46, Try.ntmps46
  go_wp2_with fail
  rw [show (#[.int .u32 1779033703, .int .u32 3144134277, .int .u32 1013904242, .int .u32 2773480762, .int .u32 1359893119, .int .u32 2600822924, .int .u32 528734635, .int .u32 1541459225] : Array Value) = (wcells 8 h0F).toArray from by kernel_rfl]
  generalize w.alloc (.cells (wcells 8 h0F).toArray 86) = wa at hA0 hb0 ⊢
  generalize hg : w.heap.size = g at hA0 hb0 ⊢
  replace hg := Lib.hid hg
  replace hA0 := Lib.hid hA0
  replace hb0 := Lib.hid hb0
  clear hq0 w1' w2' w3' w4'
  go_loopw [5] (fun v wr => ∃ (k : Nat), 64 * k ≤ al ∧ v = .int .i64 ((64 * k : Nat) : Int) ∧ Hid (Av wr g 8 (stB (msg l) k)) ∧ Hid (Below g w wr)) (fun v _ => (al - intOf v).toNat)
  case atStart => exact ⟨0, by omega, rfl, hA0, hb0⟩
  case round =>
    obtain ⟨k, hk, rfl, hA, hb⟩ := hrel
    clear hA0 hb0
    obtain ⟨wo, hwo⟩ : ∃ wo, wo = wr := ⟨_, rfl⟩
    subst hwo
    obtain ⟨T, hT⟩ : ∃ T, 64 * k = T := ⟨_, rfl⟩
    rw [hT] at hk ⊢
    by_cases hlt : T < al
    · as_aux_lemma =>
        have iT : (T : Int) < (al : Int) := by omega
        obtain ⟨s, hs⟩ : ∃ s, stB (msg l) k = s := ⟨_, rfl⟩
        rw [hs] at hA
        obtain ⟨b, hbb⟩ : ∃ b, blkB (msg l) k = b := ⟨_, rfl⟩
        have hlast : Hid (stB (msg l) (k + 1) = blkS s (wd b)) := Lib.hid (by rw [← hs, ← hbb]; rfl)
        replace hs := Lib.hid hs
        replace hT := Lib.hid hT
        have hbat : Hid (∀ j, j < 64 → b j = atF l al (T + j)) := Lib.hid (fun j hj => by
          have hm : al % 64 = 0 := by rw [← hall.out]; unfold allN; omega
          have h64 : T + 64 ≤ al := by have := hT.out; omega
          rw [← hbb, blkB_at l n al k j hl.out hall.out (by have := hT.out; omega), show k * 64 + j = T + j from by have := hT.out; omega])
        have hT64 : T + 64 ≤ al := by
          have hm : al % 64 = 0 := by rw [← hall.out]; unfold allN; omega
          have := hT.out
          omega
        replace hbb := Lib.hid hbb
        have hgl : g < wo.heap.size := hA.out.lt
        have hW0 := (Ar.new wo 86 16 (fun _ => 0)).av
        have hq1 : Below wo.heap.size wo (wo.alloc (.cells (wcells 16 (fun _ => 0)).toArray 86)) := (Below.refl _ _).alloc (Nat.le_refl _) _
        have hmk := run_make16 wo
        go_upto_region 7 with (fail)
        clear hmk
        generalize wo.alloc (.cells (wcells 16 (fun _ => 0)).toArray 86) = w1 at hW0 hq1 ⊢
        generalize hgw : wo.heap.size = gw at hgl hW0 hq1 ⊢
        replace hA := Lib.hid (hA.out.below hq1 hgl)
        replace hb := Lib.hid (hb.out.trans (hq1.mono (Nat.le_of_lt hgl)))
        clear hgw hq1
        have hE1 : Hid ((w1.alloc (.cells #[] 86)).ownsRow w1.heap.size 86 1 (.slice (some ⟨w1.heap.size, 0, none⟩) 0 0) 0 []) := Lib.hid (World.ownsRow_made w1 #[] 0 (Nat.le_refl _) (by simp [maxLen]) rfl)
        have hq2 : Gr w1 (w1.alloc (.cells #[] 86)) := (Below.refl _ _).alloc (Nat.le_refl _) _
        have hA1 := Av.gr hq2 hA
        have hW1 := Av.gr hq2 (Lib.hid hW0)
        have hb1 : Hid (Below g w (w1.alloc (.cells #[] 86))) := Lib.hid (hb.out.trans (Below.mono hq2 (Nat.le_of_lt hA.out.lt)))
        have hsz : w1.heap.size ≤ (w1.alloc (.cells #[] 86)).heap.size := Below.size hq2
        have hgx0 : gw < w1.heap.size := hW0.lt
        clear hW0 hq2
        go_wp2_with (at_builtin; go_must (refine wpl_copy32 rfl (.tmp 30) (.tmp 31) rfl w1.heap.size g 8 8 s (by decide) (by decide) (.slice (some ⟨w1.heap.size, 0, none⟩) 0 0) rfl hE1.out rfl hA1.out hsz ?_); intro gx cx w2 hX2 hgx2 hcx2 hr2; have hr2' := Lib.hid hr2; replace hX2 := Lib.hid hX2; clear hr2)
        have hA2 := hA1.out.below hr2'.out (Nat.lt_trans hgl hgx0)
        have hW2 := hW1.out.below hr2'.out hgx0
        have hSt0 : Hid (St w w2 g gw gx s (rg b 0) (rnd s (wd b) 0)) := Lib.hid ⟨hA2, by rw [rg_zero]; exact hW2, hX2.out, hb1.out.trans (Below.mono hr2'.out (Nat.le_of_lt (Nat.lt_trans hgl hgx0))), hgl, Nat.lt_of_lt_of_le hgx0 hgx2⟩
        clear hA hb hA1 hW1 hb1 hE1 hA2 hW2 hr2' hX2 hsz hgx0
        go_loopw [8] (fun v wr => ∃ (m : Nat), m ≤ 64 ∧ v = .int .i64 m ∧ Hid (St w wr g gw gx s (rg b m) (rnd s (wd b) m))) (fun v _ => (64 - intOf v).toNat)
        case atStart => exact ⟨0, by omega, rfl, hSt0⟩
        case round =>
          obtain ⟨m, hm, rfl, hS⟩ := hrel
          clear hSt0
          obtain ⟨wn, hwn⟩ : ∃ wn, wn = wr := ⟨_, rfl⟩
          subst hwn
          by_cases hm64 : m < 64
          · as_aux_lemma =>
              have im64 : (m : Int) < 64 := by omega
              go_upto_if 38 with (fail)
              go_cut [9, 10, 11] (fun y9 y10 y11 wx => Hid (St w wx g gw gx s (rg b (m + 1)) (rnd s (wd b) m)))
              case first =>
                by_cases h16 : m < 16
                · have i16 : (m : Int) < 16 := by omega
                  have d16 : decide ((m : Int) < 16) = true := decide_eq_true i16
                  rw [d16]
                  go_wp2_with fail
                  have hI0 : Hid (St w wn g gw gx s (rgI b m 0) (rnd s (wd b) m)) := Lib.hid (hS.out.congr (fun _ _ => rfl) (fun j _ => rgI_zero b m j) (fun _ _ => rfl))
                  go_loopw [9] (fun v wr => ∃ (i : Nat), i ≤ 4 ∧ v = .int .i64 i ∧ Hid (St w wr g gw gx s (rgI b m i) (rnd s (wd b) m))) (fun v _ => (4 - intOf v).toNat)
                  case atStart => exact ⟨0, by omega, rfl, hI0⟩
                  case round =>
                    obtain ⟨i, hi, rfl, hI⟩ := hrel
                    clear hI0 hS
                    by_cases hi4 : i < 4
                    · as_aux_lemma =>
                        have ii4 : (i : Int) < 4 := by omega
                        go_wp2_with fail
                        have cI := hI.out.w.at (i := m) (by omega)
                        have fz := hI.out.w.free m
                        have hP : rgI b m i m = part4 b (4 * m) i := by unfold rgI; rw [if_pos rfl]
                        rw [hP] at cI
                        have cI2 : wr.drew.cell? ⟨gw, m, none⟩ = some (.int .u32 (W (part4 b (4 * m) i))) := cI
                        obtain ⟨P, hP2⟩ : ∃ P, part4 b (4 * m) i = P := ⟨_, rfl⟩
                        rw [hP2] at cI cI2
                        obtain ⟨q0, e0⟩ : ∃ q, 4 * m = q := ⟨_, rfl⟩
                        obtain ⟨q1, e1⟩ : ∃ q, T + q0 = q := ⟨_, rfl⟩
                        obtain ⟨q2, e2⟩ : ∃ q, q1 + i = q := ⟨_, rfl⟩
                        have m0 : IntKind.i64.wrap (4 * (m : Int)) = (q0 : Int) := by rw [i64_wrap_id (by omega) (by omega)]; omega
                        have m1 : IntKind.i64.wrap ((T : Int) + (q0 : Int)) = (q1 : Int) := by rw [i64_wrap_id (by omega) (by omega)]; omega
                        have m2 : IntKind.i64.wrap ((q1 : Int) + (i : Int)) = (q2 : Int) := by rw [i64_wrap_id (by omega) (by omega)]; omega
                        have hy : b (4 * m + i) = atF l al q2 := by rw [hbat.out _ (by omega)]; congr 1; omega
                        have hat2 := Lib.hid (hat.out q2 (by omega) wr.drew (Lib.hid (show Rd wr.drew wr.drew.heap.size A l from h.out.up (hg.out.symm ▸ hI.out.q.drew))))
                        obtain ⟨y, hyy⟩ : ∃ y, atF l al q2 = y := ⟨_, rfl⟩
                        rw [hyy] at hat2 hy
                        have im16 : (m : Int) < 16 := i16
                        replace e0 := Lib.hid e0
                        replace e1 := Lib.hid e1
                        replace e2 := Lib.hid e2
                        replace hP := Lib.hid hP
                        replace hP2 := Lib.hid hP2
                        replace hy := Lib.hid hy
                        replace hyy := Lib.hid hyy
                        refine wpR_region (Eq) 19 (by kernel_rfl) ?_
                        refine wpR_take (i := 0) (v := ?_) (⟨fun _ => rfl, Eq.trans⟩) (some 43) rfl (by kernel_rfl) (by kernel_rfl) (by kernel_rfl) (by kernel_rfl) (by kernel_rfl) (fun _ _ _ h => h) (by kernel_rfl) (fun w' hw' => ?_) ?_
                        rotate_left
                        · go_simp; with_reducible rfl
                        simp only [Act.put, List.setIfInBounds_toArray, List.set_cons_zero, List.set_cons_succ]
                        refine wpR_take (i := 1) (v := ?_) (⟨fun _ => rfl, Eq.trans⟩) (some 44) rfl (by kernel_rfl) (by kernel_rfl) (by kernel_rfl) (by kernel_rfl) (by kernel_rfl) (fun _ _ _ h => h) (by kernel_rfl) (fun w' hw' => ?_) ?_
                        rotate_left
                        · go_simp; with_reducible rfl
                        simp only [Act.put, List.setIfInBounds_toArray, List.set_cons_zero, List.set_cons_succ]
                        refine wpR_take (i := 2) (v := ?_) (⟨fun _ => rfl, Eq.trans⟩) (some 45) rfl (by kernel_rfl) (by kernel_rfl) (by kernel_rfl) (by kernel_rfl) (by kernel_rfl) (fun _ _ _ h => h) (by kernel_rfl) (fun w' hw' => ?_) ?_
                        rotate_left
                        · go_simp; with_reducible rfl
                        simp only [Act.put, List.setIfInBounds_toArray, List.set_cons_zero, List.set_cons_succ]
                        refine wpR_take (i := 3) (v := ?_) (⟨fun _ => rfl, Eq.trans⟩) (some 46) rfl (by kernel_rfl) (by kernel_rfl) (by kernel_rfl) (by kernel_rfl) (by kernel_rfl) (fun _ _ _ h => h) (by kernel_rfl) (fun w' hw' => ?_) ?_
                        rotate_left
                        · go_simp; with_reducible rfl
                        simp only [Act.put, List.setIfInBounds_toArray, List.set_cons_zero, List.set_cons_succ]
                        refine wpR_take (i := 4) (v := ?_) (⟨fun _ => rfl, Eq.trans⟩) (some 47) rfl (by kernel_rfl) (by kernel_rfl) (by kernel_rfl) (by kernel_rfl) (by kernel_rfl) (fun _ _ _ h => h) (by kernel_rfl) (fun w' hw' => ?_) ?_
                        rotate_left
                        · go_simp; with_reducible rfl
                        simp only [Act.put, List.setIfInBounds_toArray, List.set_cons_zero, List.set_cons_succ]
                        refine wpR_take (i := 5) (v := ?_) (⟨fun _ => rfl, Eq.trans⟩) (some 48) rfl (by kernel_rfl) (by kernel_rfl) (by kernel_rfl) (by kernel_rfl) (by kernel_rfl) (fun _ _ _ h => h) (by kernel_rfl) (fun w' hw' => ?_) ?_
                        rotate_left
                        · subst hw'; go_simp; with_reducible rfl
                        simp only [Act.put, List.setIfInBounds_toArray, List.set_cons_zero, List.set_cons_succ]
                        refine wpR_take (i := 6) (v := ?_) (⟨fun _ => rfl, Eq.trans⟩) (some 49) rfl (by kernel_rfl) (by kernel_rfl) (by kernel_rfl) (by kernel_rfl) (by kernel_rfl) (fun _ _ _ h => h) (by kernel_rfl) (fun w' hw' => ?_) ?_
                        rotate_left
                        · go_simp; with_reducible rfl
                        simp only [Act.put, List.setIfInBounds_toArray, List.set_cons_zero, List.set_cons_succ]
                        refine wpR_take (i := 7) (v := ?_) (⟨fun _ => rfl, Eq.trans⟩) (some 50) rfl (by kernel_rfl) (by kernel_rfl) (by kernel_rfl) (by kernel_rfl) (by kernel_rfl) (fun _ _ _ h => h) (by kernel_rfl) (fun w' hw' => ?_) ?_
                        rotate_left
                        · go_simp; with_reducible rfl
                        simp only [Act.put, List.setIfInBounds_toArray, List.set_cons_zero, List.set_cons_succ]
                        refine wpR_take (i := 8) (v := ?_) (⟨fun _ => rfl, Eq.trans⟩) (some 51) rfl (by kernel_rfl) (by kernel_rfl) (by kernel_rfl) (by kernel_rfl) (by kernel_rfl) (fun _ _ _ h => h) (by kernel_rfl) (fun w' hw' => ?_) ?_
                        rotate_left
                        · go_simp; with_reducible rfl
                        simp only [Act.put, List.setIfInBounds_toArray, List.set_cons_zero, List.set_cons_succ]
                        refine wpR_take (i := 9) (v := ?_) (⟨fun _ => rfl, Eq.trans⟩) (some 52) rfl (by kernel_rfl) (by kernel_rfl) (by kernel_rfl) (by kernel_rfl) (by kernel_rfl) (fun _ _ _ h => h) (by kernel_rfl) (fun w' hw' => ?_) ?_
                        rotate_left
                        · go_simp; with_reducible rfl
                        simp only [Act.put, List.setIfInBounds_toArray, List.set_cons_zero, List.set_cons_succ]
                        refine wpR_take (i := 10) (v := ?_) (⟨fun _ => rfl, Eq.trans⟩) (some 53) rfl (by kernel_rfl) (by kernel_rfl) (by kernel_rfl) (by kernel_rfl) (by kernel_rfl) (fun _ _ _ h => h) (by kernel_rfl) (fun w' hw' => ?_) ?_
                        rotate_left
                        · go_simp; with_reducible rfl
                        simp only [Act.put, List.setIfInBounds_toArray, List.set_cons_zero, List.set_cons_succ]
                        refine wpR_take (i := 11) (v := ?_) (⟨fun _ => rfl, Eq.trans⟩) (some 54) rfl (by kernel_rfl) (by kernel_rfl) (by kernel_rfl) (by kernel_rfl) (by kernel_rfl) (fun _ _ _ h => h) (by kernel_rfl) (fun w' hw' => ?_) ?_
                        rotate_left
                        · go_simp; with_reducible rfl
                        simp only [Act.put, List.setIfInBounds_toArray, List.set_cons_zero, List.set_cons_succ]
                        refine wpR_take (i := 12) (v := ?_) (⟨fun _ => rfl, Eq.trans⟩) (some 55) rfl (by kernel_rfl) (by kernel_rfl) (by kernel_rfl) (by kernel_rfl) (by kernel_rfl) (fun _ _ _ h => h) (by kernel_rfl) (fun w' hw' => ?_) ?_
                        rotate_left
                        · go_simp; with_reducible rfl
                        simp only [Act.put, List.setIfInBounds_toArray, List.set_cons_zero, List.set_cons_succ]
                        refine wpR_take (i := 13) (v := ?_) (⟨fun _ => rfl, Eq.trans⟩) (some 56) rfl (by kernel_rfl) (by kernel_rfl) (by kernel_rfl) (by kernel_rfl) (by kernel_rfl) (fun _ _ _ h => h) (by kernel_rfl) (fun w' hw' => ?_) ?_
                        rotate_left
                        · go_simp; with_reducible rfl
                        simp only [Act.put, List.setIfInBounds_toArray, List.set_cons_zero, List.set_cons_succ]
                        refine wpR_take (i := 14) (v := ?_) (⟨fun _ => rfl, Eq.trans⟩) (some 57) rfl (by kernel_rfl) (by kernel_rfl) (by kernel_rfl) (by kernel_rfl) (by kernel_rfl) (fun _ _ _ h => h) (by kernel_rfl) (fun w' hw' => ?_) ?_
                        rotate_left
                        · go_simp; with_reducible rfl
                        simp only [Act.put, List.setIfInBounds_toArray, List.set_cons_zero, List.set_cons_succ]
                        refine wpR_call (i := 15) (v := (.int .u8 (U y))) (⟨fun _ => rfl, Eq.trans⟩) (some 58) rfl (by kernel_rfl) (by kernel_rfl) (by kernel_rfl) (by kernel_rfl) (by kernel_rfl) (fun _ _ _ h => h) (by kernel_rfl) (fun w' hw' => ?_) ?_
                        · refine ⟨69, #[.slice A n c, .int .i64 q2, .int .i64 al], ?_, ?_⟩
                          · go_simp
                          · subst hw'; exact hat2.out
                        simp only [Act.put, List.setIfInBounds_toArray, List.set_cons_zero, List.set_cons_succ]
                        refine wpR_take (i := 16) (v := ?_) (⟨fun _ => rfl, Eq.trans⟩) (some 59) rfl (by kernel_rfl) (by kernel_rfl) (by kernel_rfl) (by kernel_rfl) (by kernel_rfl) (fun _ _ _ h => h) (by kernel_rfl) (fun w' hw' => ?_) ?_
                        rotate_left
                        · go_simp; with_reducible rfl
                        simp only [Act.put, List.setIfInBounds_toArray, List.set_cons_zero, List.set_cons_succ]
                        refine wpR_take (i := 17) (v := ?_) (⟨fun _ => rfl, Eq.trans⟩) (some 60) rfl (by kernel_rfl) (by kernel_rfl) (by kernel_rfl) (by kernel_rfl) (by kernel_rfl) (fun _ _ _ h => h) (by kernel_rfl) (fun w' hw' => ?_) ?_
                        rotate_left
                        · go_simp; with_reducible rfl
                        simp only [Act.put, List.setIfInBounds_toArray, List.set_cons_zero, List.set_cons_succ]
                        refine wpR_take (i := 18) (v := ?_) (⟨fun _ => rfl, Eq.trans⟩) (some 61) rfl (by kernel_rfl) (by kernel_rfl) (by kernel_rfl) (by kernel_rfl) (by kernel_rfl) (fun _ _ _ h => h) (by kernel_rfl) (fun w' hw' => ?_) ?_
                        rotate_left
                        · go_simp; with_reducible rfl
                        simp only [Act.put, List.setIfInBounds_toArray, List.set_cons_zero, List.set_cons_succ]
                        refine wpR_one 19 rfl (by kernel_rfl) (by kernel_rfl) (fun K hK => ?_)
                        go_simp
                        refine hK _ _ (fun h => absurd h (by decide)) ?_
                        clear hK K
                        try simp only [Act.put, List.setIfInBounds_toArray, List.set_cons_zero, List.set_cons_succ]
                        refine wpR_done (by kernel_rfl) ?_ _
                        clear m0 m1 m2 cI cI2 fz hat2
                        have hI9 : Hid (St w (wr.setCell ⟨gw, m, none⟩ (.int .u32 (W (P <<< 8 + zx32 y)))).drew g gw gx s (rgI b m (i + 1)) (rnd s (wd b) m)) := Lib.hid ((hI.out.setW (by omega) _).drew.congr (fun _ _ => rfl) (fun j hj => by rw [← hP2.out, ← hy.out]; exact rgI_succ b m i j) (fun _ _ => rfl))
                        go_wp2_with fail
                        go_roundw
                        case rel => first | exact ⟨i + 1, by omega, by go_num, hI9⟩ | ((repeat apply Exists.intro); refine ⟨⟨i + 1, by omega, ?_, hI9⟩, rfl⟩; (go_num))
                        case measure => simp [intOf]; omega
                    · as_aux_lemma =>
                        obtain rfl : i = 4 := by omega
                        have ii4 : decide (((4 : Nat) : Int) < 4) = false := by decide
                        clear hi4
                        have hI9 : Hid (St w wr g gw gx s (rg b (m + 1)) (rnd s (wd b) m)) := Lib.hid (hI.out.congr (fun _ _ => rfl) (fun j hj => rgI_four b h16 hj) (fun _ _ => rfl))
                        clear hI
                        go_wp2_with fail
                        go_meet
                        exact hI9
                · as_aux_lemma =>
                    have i16 : decide ((m : Int) < 16) = false := decide_eq_false (by omega)
                    have i16' : ¬ ((m : Int) < 16) := by omega
                    go_wp2_with fail
                    obtain ⟨r1, f1⟩ : ∃ r, (m + 1) % 16 = r := ⟨_, rfl⟩
                    obtain ⟨r2, f2⟩ : ∃ r, (m + 14) % 16 = r := ⟨_, rfl⟩
                    obtain ⟨r3, f3⟩ : ∃ r, (m + 9) % 16 = r := ⟨_, rfl⟩
                    obtain ⟨r4, f4⟩ : ∃ r, m % 16 = r := ⟨_, rfl⟩
                    have v1 : rg b m r1 = wd b (m - 15) := by rw [← f1, show (m + 1) % 16 = (m - 15) % 16 from by omega]; exact rg_at (by omega) (by omega)
                    have v2 : rg b m r2 = wd b (m - 2) := by rw [← f2, show (m + 14) % 16 = (m - 2) % 16 from by omega]; exact rg_at (by omega) (by omega)
                    have v3 : rg b m r3 = wd b (m - 7) := by rw [← f3, show (m + 9) % 16 = (m - 7) % 16 from by omega]; exact rg_at (by omega) (by omega)
                    have v4 : rg b m r4 = wd b (m - 16) := by rw [← f4, show m % 16 = (m - 16) % 16 from by omega]; exact rg_at (by omega) (by omega)
                    have c1 := (show St w wn.drew g gw gx s (rg b m) (rnd s (wd b) m) from hS.out.drew).w.at (i := r1) (by omega)
                    have c2 := (show St w wn.drew g gw gx s (rg b m) (rnd s (wd b) m) from hS.out.drew).w.at (i := r2) (by omega)
                    have c3 := (show St w wn.drew.drew g gw gx s (rg b m) (rnd s (wd b) m) from hS.out.drew.drew).w.at (i := r3) (by omega)
                    have c4 := (show St w wn.drew.drew g gw gx s (rg b m) (rnd s (wd b) m) from hS.out.drew.drew).w.at (i := r4) (by omega)
                    have c5 := hS.out.w.at (i := r4) (by omega)
                    have fz := hS.out.w.free r4
                    rw [v1] at c1
                    rw [v2] at c2
                    rw [v3] at c3
                    rw [v4] at c4 c5
                    obtain ⟨x1, g1⟩ : ∃ x, wd b (m - 15) = x := ⟨_, rfl⟩
                    obtain ⟨x2, g2⟩ : ∃ x, wd b (m - 2) = x := ⟨_, rfl⟩
                    obtain ⟨x3, g3⟩ : ∃ x, wd b (m - 7) = x := ⟨_, rfl⟩
                    obtain ⟨x4, g4⟩ : ∃ x, wd b (m - 16) = x := ⟨_, rfl⟩
                    rw [g1] at c1
                    rw [g2] at c2
                    rw [g3] at c3
                    rw [g4] at c4 c5
                    have m1 : IntKind.i64.wrap ((m : Int) + 1) = ((m + 1 : Nat) : Int) := by rw [i64_wrap_id (by omega) (by omega)]; omega
                    have m2 : IntKind.i64.wrap ((m : Int) + 14) = ((m + 14 : Nat) : Int) := by rw [i64_wrap_id (by omega) (by omega)]; omega
                    have m3 : IntKind.i64.wrap ((m : Int) + 9) = ((m + 9 : Nat) : Int) := by rw [i64_wrap_id (by omega) (by omega)]; omega
                    obtain ⟨p1, h1⟩ : ∃ p, m + 1 = p := ⟨_, rfl⟩
                    obtain ⟨p2, h2⟩ : ∃ p, m + 14 = p := ⟨_, rfl⟩
                    obtain ⟨p3, h3⟩ : ∃ p, m + 9 = p := ⟨_, rfl⟩
                    rw [h1] at m1
                    rw [h2] at m2
                    rw [h3] at m3
                    have n1 : Int.tmod (p1 : Int) 16 = (r1 : Int) := by rw [← f1, h1]; exact Int.ofNat_tmod p1 16
                    have n2 : Int.tmod (p2 : Int) 16 = (r2 : Int) := by rw [← f2, h2]; exact Int.ofNat_tmod p2 16
                    have n3 : Int.tmod (p3 : Int) 16 = (r3 : Int) := by rw [← f3, h3]; exact Int.ofNat_tmod p3 16
                    have n4 : Int.tmod (m : Int) 16 = (r4 : Int) := by rw [← f4]; exact Int.ofNat_tmod m 16
                    have l1 : (r1 : Int) < 16 := by omega
                    have l2 : (r2 : Int) < 16 := by omega
                    have l3 : (r3 : Int) < 16 := by omega
                    have l4 : (r4 : Int) < 16 := by omega
                    replace f1 := Lib.hid f1
                    replace f2 := Lib.hid f2
                    replace f3 := Lib.hid f3
                    replace f4 := Lib.hid f4
                    replace g1 := Lib.hid g1
                    replace g2 := Lib.hid g2
                    replace g3 := Lib.hid g3
                    replace g4 := Lib.hid g4
                    replace v1 := Lib.hid v1
                    replace v2 := Lib.hid v2
                    replace v3 := Lib.hid v3
                    replace v4 := Lib.hid v4
                    replace h1 := Lib.hid h1
                    replace h2 := Lib.hid h2
                    replace h3 := Lib.hid h3
                    refine wpR_region (Eq) 9999 (by kernel_rfl) ?_
                    refine wpR_take (i := 0) (v := ?_) (⟨fun _ => rfl, Eq.trans⟩) (some 62) rfl (by kernel_rfl) (by kernel_rfl) (by kernel_rfl) (by kernel_rfl) (by kernel_rfl) (fun _ _ _ h => h) (by kernel_rfl) (fun w' hw' => ?_) ?_
                    rotate_left
                    · go_simp; with_reducible rfl
                    simp only [Act.put, List.setIfInBounds_toArray, List.set_cons_zero, List.set_cons_succ]
                    refine wpR_take (i := 1) (v := ?_) (⟨fun _ => rfl, Eq.trans⟩) (some 63) rfl (by kernel_rfl) (by kernel_rfl) (by kernel_rfl) (by kernel_rfl) (by kernel_rfl) (fun _ _ _ h => h) (by kernel_rfl) (fun w' hw' => ?_) ?_
                    rotate_left
                    · go_simp; with_reducible rfl
                    simp only [Act.put, List.setIfInBounds_toArray, List.set_cons_zero, List.set_cons_succ]
                    refine wpR_take (i := 2) (v := ?_) (⟨fun _ => rfl, Eq.trans⟩) (some 64) rfl (by kernel_rfl) (by kernel_rfl) (by kernel_rfl) (by kernel_rfl) (by kernel_rfl) (fun _ _ _ h => h) (by kernel_rfl) (fun w' hw' => ?_) ?_
                    rotate_left
                    · go_simp; with_reducible rfl
                    simp only [Act.put, List.setIfInBounds_toArray, List.set_cons_zero, List.set_cons_succ]
                    refine wpR_take (i := 3) (v := ?_) (⟨fun _ => rfl, Eq.trans⟩) (some 65) rfl (by kernel_rfl) (by kernel_rfl) (by kernel_rfl) (by kernel_rfl) (by kernel_rfl) (fun _ _ _ h => h) (by kernel_rfl) (fun w' hw' => ?_) ?_
                    rotate_left
                    · go_simp; with_reducible rfl
                    simp only [Act.put, List.setIfInBounds_toArray, List.set_cons_zero, List.set_cons_succ]
                    refine wpR_take (i := 4) (v := ?_) (⟨fun _ => rfl, Eq.trans⟩) (some 66) rfl (by kernel_rfl) (by kernel_rfl) (by kernel_rfl) (by kernel_rfl) (by kernel_rfl) (fun _ _ _ h => h) (by kernel_rfl) (fun w' hw' => ?_) ?_
                    rotate_left
                    · go_simp; with_reducible rfl
                    simp only [Act.put, List.setIfInBounds_toArray, List.set_cons_zero, List.set_cons_succ]
                    refine wpR_take (i := 5) (v := ?_) (⟨fun _ => rfl, Eq.trans⟩) (some 67) rfl (by kernel_rfl) (by kernel_rfl) (by kernel_rfl) (by kernel_rfl) (by kernel_rfl) (fun _ _ _ h => h) (by kernel_rfl) (fun w' hw' => ?_) ?_
                    rotate_left
                    · subst hw'; go_simp; with_reducible rfl
                    simp only [Act.put, List.setIfInBounds_toArray, List.set_cons_zero, List.set_cons_succ]
                    refine wpR_take (i := 6) (v := ?_) (⟨fun _ => rfl, Eq.trans⟩) (some 68) rfl (by kernel_rfl) (by kernel_rfl) (by kernel_rfl) (by kernel_rfl) (by kernel_rfl) (fun _ _ _ h => h) (by kernel_rfl) (fun w' hw' => ?_) ?_
                    rotate_left
                    · go_simp; with_reducible rfl
                    simp only [Act.put, List.setIfInBounds_toArray, List.set_cons_zero, List.set_cons_succ]
                    refine wpR_take (i := 7) (v := ?_) (⟨fun _ => rfl, Eq.trans⟩) (some 69) rfl (by kernel_rfl) (by kernel_rfl) (by kernel_rfl) (by kernel_rfl) (by kernel_rfl) (fun _ _ _ h => h) (by kernel_rfl) (fun w' hw' => ?_) ?_
                    rotate_left
                    · go_simp; with_reducible rfl
                    simp only [Act.put, List.setIfInBounds_toArray, List.set_cons_zero, List.set_cons_succ]
                    refine wpR_take (i := 8) (v := ?_) (⟨fun _ => rfl, Eq.trans⟩) (some 70) rfl (by kernel_rfl) (by kernel_rfl) (by kernel_rfl) (by kernel_rfl) (by kernel_rfl) (fun _ _ _ h => h) (by kernel_rfl) (fun w' hw' => ?_) ?_
                    rotate_left
                    · go_simp; with_reducible rfl
                    simp only [Act.put, List.setIfInBounds_toArray, List.set_cons_zero, List.set_cons_succ]
                    refine wpR_take (i := 9) (v := ?_) (⟨fun _ => rfl, Eq.trans⟩) (some 71) rfl (by kernel_rfl) (by kernel_rfl) (by kernel_rfl) (by kernel_rfl) (by kernel_rfl) (fun _ _ _ h => h) (by kernel_rfl) (fun w' hw' => ?_) ?_
                    rotate_left
                    · go_simp; with_reducible rfl
                    simp only [Act.put, List.setIfInBounds_toArray, List.set_cons_zero, List.set_cons_succ]
                    refine wpR_take (i := 10) (v := ?_) (⟨fun _ => rfl, Eq.trans⟩) (some 72) rfl (by kernel_rfl) (by kernel_rfl) (by kernel_rfl) (by kernel_rfl) (by kernel_rfl) (fun _ _ _ h => h) (by kernel_rfl) (fun w' hw' => ?_) ?_
                    rotate_left
                    · go_simp; with_reducible rfl
                    simp only [Act.put, List.setIfInBounds_toArray, List.set_cons_zero, List.set_cons_succ]
                    refine wpR_take (i := 11) (v := ?_) (⟨fun _ => rfl, Eq.trans⟩) (some 73) rfl (by kernel_rfl) (by kernel_rfl) (by kernel_rfl) (by kernel_rfl) (by kernel_rfl) (fun _ _ _ h => h) (by kernel_rfl) (fun w' hw' => ?_) ?_
                    rotate_left
                    · subst hw'; go_simp; with_reducible rfl
                    simp only [Act.put, List.setIfInBounds_toArray, List.set_cons_zero, List.set_cons_succ]
                    refine wpR_take (i := 12) (v := ?_) (⟨fun _ => rfl, Eq.trans⟩) (some 10) rfl (by kernel_rfl) (by kernel_rfl) (by kernel_rfl) (by kernel_rfl) (by kernel_rfl) (fun _ _ _ h => h) (by kernel_rfl) (fun w' hw' => ?_) ?_
                    rotate_left
                    · go_simp; with_reducible rfl
                    simp only [Act.put, List.setIfInBounds_toArray, List.set_cons_zero, List.set_cons_succ]
                    refine wpR_take (i := 13) (v := ?_) (⟨fun _ => rfl, Eq.trans⟩) (some 11) rfl (by kernel_rfl) (by kernel_rfl) (by kernel_rfl) (by kernel_rfl) (by kernel_rfl) (fun _ _ _ h => h) (by kernel_rfl) (fun w' hw' => ?_) ?_
                    rotate_left
                    · go_simp; with_reducible rfl
                    simp only [Act.put, List.setIfInBounds_toArray, List.set_cons_zero, List.set_cons_succ]
                    refine wpR_done (by kernel_rfl) ?_ _
                    go_wp2_with fail
                    refine wpR_region (Eq) 31 (by kernel_rfl) ?_
                    refine wpR_take (i := 0) (v := ?_) (⟨fun _ => rfl, Eq.trans⟩) (some 74) rfl (by kernel_rfl) (by kernel_rfl) (by kernel_rfl) (by kernel_rfl) (by kernel_rfl) (fun _ _ _ h => h) (by kernel_rfl) (fun w' hw' => ?_) ?_
                    rotate_left
                    · go_simp; with_reducible rfl
                    simp only [Act.put, List.setIfInBounds_toArray, List.set_cons_zero, List.set_cons_succ]
                    refine wpR_take (i := 1) (v := ?_) (⟨fun _ => rfl, Eq.trans⟩) (some 75) rfl (by kernel_rfl) (by kernel_rfl) (by kernel_rfl) (by kernel_rfl) (by kernel_rfl) (fun _ _ _ h => h) (by kernel_rfl) (fun w' hw' => ?_) ?_
                    rotate_left
                    · go_simp; with_reducible rfl
                    simp only [Act.put, List.setIfInBounds_toArray, List.set_cons_zero, List.set_cons_succ]
                    refine wpR_take (i := 2) (v := ?_) (⟨fun _ => rfl, Eq.trans⟩) (some 76) rfl (by kernel_rfl) (by kernel_rfl) (by kernel_rfl) (by kernel_rfl) (by kernel_rfl) (fun _ _ _ h => h) (by kernel_rfl) (fun w' hw' => ?_) ?_
                    rotate_left
                    · go_simp; with_reducible rfl
                    simp only [Act.put, List.setIfInBounds_toArray, List.set_cons_zero, List.set_cons_succ]
                    refine wpR_take (i := 3) (v := ?_) (⟨fun _ => rfl, Eq.trans⟩) (some 77) rfl (by kernel_rfl) (by kernel_rfl) (by kernel_rfl) (by kernel_rfl) (by kernel_rfl) (fun _ _ _ h => h) (by kernel_rfl) (fun w' hw' => ?_) ?_
                    rotate_left
                    · go_simp; with_reducible rfl
                    simp only [Act.put, List.setIfInBounds_toArray, List.set_cons_zero, List.set_cons_succ]
                    refine wpR_take (i := 4) (v := ?_) (⟨fun _ => rfl, Eq.trans⟩) (some 78) rfl (by kernel_rfl) (by kernel_rfl) (by kernel_rfl) (by kernel_rfl) (by kernel_rfl) (fun _ _ _ h => h) (by kernel_rfl) (fun w' hw' => ?_) ?_
                    rotate_left
                    · subst hw'; go_simp; with_reducible rfl
                    simp only [Act.put, List.setIfInBounds_toArray, List.set_cons_zero, List.set_cons_succ]
                    refine wpR_take (i := 5) (v := ?_) (⟨fun _ => rfl, Eq.trans⟩) (some 79) rfl (by kernel_rfl) (by kernel_rfl) (by kernel_rfl) (by kernel_rfl) (by kernel_rfl) (fun _ _ _ h => h) (by kernel_rfl) (fun w' hw' => ?_) ?_
                    rotate_left
                    · go_simp; with_reducible rfl
                    simp only [Act.put, List.setIfInBounds_toArray, List.set_cons_zero, List.set_cons_succ]
                    refine wpR_take (i := 6) (v := ?_) (⟨fun _ => rfl, Eq.trans⟩) (some 80) rfl (by kernel_rfl) (by kernel_rfl) (by kernel_rfl) (by kernel_rfl) (by kernel_rfl) (fun _ _ _ h => h) (by kernel_rfl) (fun w' hw' => ?_) ?_
                    rotate_left
                    · go_simp; with_reducible rfl
                    simp only [Act.put, List.setIfInBounds_toArray, List.set_cons_zero, List.set_cons_succ]
                    refine wpR_take (i := 7) (v := ?_) (⟨fun _ => rfl, Eq.trans⟩) (some 81) rfl (by kernel_rfl) (by kernel_rfl) (by kernel_rfl) (by kernel_rfl) (by kernel_rfl) (fun _ _ _ h => h) (by kernel_rfl) (fun w' hw' => ?_) ?_
                    rotate_left
                    · go_simp; with_reducible rfl
                    simp only [Act.put, List.setIfInBounds_toArray, List.set_cons_zero, List.set_cons_succ]
                    refine wpR_take (i := 8) (v := ?_) (⟨fun _ => rfl, Eq.trans⟩) (some 82) rfl (by kernel_rfl) (by kernel_rfl) (by kernel_rfl) (by kernel_rfl) (by kernel_rfl) (fun _ _ _ h => h) (by kernel_rfl) (fun w' hw' => ?_) ?_
                    rotate_left
                    · go_simp; with_reducible rfl
                    simp only [Act.put, List.setIfInBounds_toArray, List.set_cons_zero, List.set_cons_succ]
                    refine wpR_take (i := 9) (v := ?_) (⟨fun _ => rfl, Eq.trans⟩) (some 83) rfl (by kernel_rfl) (by kernel_rfl) (by kernel_rfl) (by kernel_rfl) (by kernel_rfl) (fun _ _ _ h => h) (by kernel_rfl) (fun w' hw' => ?_) ?_
                    rotate_left
                    · go_simp; with_reducible rfl
                    simp only [Act.put, List.setIfInBounds_toArray, List.set_cons_zero, List.set_cons_succ]
                    refine wpR_take (i := 10) (v := ?_) (⟨fun _ => rfl, Eq.trans⟩) (some 84) rfl (by kernel_rfl) (by kernel_rfl) (by kernel_rfl) (by kernel_rfl) (by kernel_rfl) (fun _ _ _ h => h) (by kernel_rfl) (fun w' hw' => ?_) ?_
                    rotate_left
                    · subst hw'; go_simp; with_reducible rfl
                    simp only [Act.put, List.setIfInBounds_toArray, List.set_cons_zero, List.set_cons_succ]
                    refine wpR_take (i := 11) (v := ?_) (⟨fun _ => rfl, Eq.trans⟩) (some 85) rfl (by kernel_rfl) (by kernel_rfl) (by kernel_rfl) (by kernel_rfl) (by kernel_rfl) (fun _ _ _ h => h) (by kernel_rfl) (fun w' hw' => ?_) ?_
                    rotate_left
                    · go_simp; with_reducible rfl
                    simp only [Act.put, List.setIfInBounds_toArray, List.set_cons_zero, List.set_cons_succ]
                    refine wpR_call (i := 12) (v := (.int .u32 (W (tn 7 x1)))) (⟨fun _ => rfl, Eq.trans⟩) (some 86) rfl (by kernel_rfl) (by kernel_rfl) (by kernel_rfl) (by kernel_rfl) (by kernel_rfl) (fun _ _ _ h => h) (by kernel_rfl) (fun w' hw' => ?_) ?_
                    · refine ⟨70, #[.int .u32 (W x1), .int .i64 7], ?_, ?_⟩
                      · go_simp
                      · exact back_7 _ _
                    simp only [Act.put, List.setIfInBounds_toArray, List.set_cons_zero, List.set_cons_succ]
                    refine wpR_take (i := 13) (v := ?_) (⟨fun _ => rfl, Eq.trans⟩) (some 87) rfl (by kernel_rfl) (by kernel_rfl) (by kernel_rfl) (by kernel_rfl) (by kernel_rfl) (fun _ _ _ h => h) (by kernel_rfl) (fun w' hw' => ?_) ?_
                    rotate_left
                    · go_simp; with_reducible rfl
                    simp only [Act.put, List.setIfInBounds_toArray, List.set_cons_zero, List.set_cons_succ]
                    refine wpR_call (i := 14) (v := (.int .u32 (W (tn 18 x1)))) (⟨fun _ => rfl, Eq.trans⟩) (some 88) rfl (by kernel_rfl) (by kernel_rfl) (by kernel_rfl) (by kernel_rfl) (by kernel_rfl) (fun _ _ _ h => h) (by kernel_rfl) (fun w' hw' => ?_) ?_
                    · refine ⟨70, #[.int .u32 (W x1), .int .i64 18], ?_, ?_⟩
                      · go_simp
                      · exact back_18 _ _
                    simp only [Act.put, List.setIfInBounds_toArray, List.set_cons_zero, List.set_cons_succ]
                    refine wpR_take (i := 15) (v := ?_) (⟨fun _ => rfl, Eq.trans⟩) (some 89) rfl (by kernel_rfl) (by kernel_rfl) (by kernel_rfl) (by kernel_rfl) (by kernel_rfl) (fun _ _ _ h => h) (by kernel_rfl) (fun w' hw' => ?_) ?_
                    rotate_left
                    · go_simp; with_reducible rfl
                    simp only [Act.put, List.setIfInBounds_toArray, List.set_cons_zero, List.set_cons_succ]
                    refine wpR_take (i := 16) (v := ?_) (⟨fun _ => rfl, Eq.trans⟩) (some 90) rfl (by kernel_rfl) (by kernel_rfl) (by kernel_rfl) (by kernel_rfl) (by kernel_rfl) (fun _ _ _ h => h) (by kernel_rfl) (fun w' hw' => ?_) ?_
                    rotate_left
                    · go_simp; with_reducible rfl
                    simp only [Act.put, List.setIfInBounds_toArray, List.set_cons_zero, List.set_cons_succ]
                    refine wpR_take (i := 17) (v := ?_) (⟨fun _ => rfl, Eq.trans⟩) (some 91) rfl (by kernel_rfl) (by kernel_rfl) (by kernel_rfl) (by kernel_rfl) (by kernel_rfl) (fun _ _ _ h => h) (by kernel_rfl) (fun w' hw' => ?_) ?_
                    rotate_left
                    · go_simp; with_reducible rfl
                    simp only [Act.put, List.setIfInBounds_toArray, List.set_cons_zero, List.set_cons_succ]
                    refine wpR_take (i := 18) (v := ?_) (⟨fun _ => rfl, Eq.trans⟩) (some 92) rfl (by kernel_rfl) (by kernel_rfl) (by kernel_rfl) (by kernel_rfl) (by kernel_rfl) (fun _ _ _ h => h) (by kernel_rfl) (fun w' hw' => ?_) ?_
                    rotate_left
                    · go_simp; with_reducible rfl
                    simp only [Act.put, List.setIfInBounds_toArray, List.set_cons_zero, List.set_cons_succ]
                    refine wpR_take (i := 19) (v := ?_) (⟨fun _ => rfl, Eq.trans⟩) (some 93) rfl (by kernel_rfl) (by kernel_rfl) (by kernel_rfl) (by kernel_rfl) (by kernel_rfl) (fun _ _ _ h => h) (by kernel_rfl) (fun w' hw' => ?_) ?_
                    rotate_left
                    · go_simp; with_reducible rfl
                    simp only [Act.put, List.setIfInBounds_toArray, List.set_cons_zero, List.set_cons_succ]
                    refine wpR_take (i := 20) (v := ?_) (⟨fun _ => rfl, Eq.trans⟩) (some 94) rfl (by kernel_rfl) (by kernel_rfl) (by kernel_rfl) (by kernel_rfl) (by kernel_rfl) (fun _ _ _ h => h) (by kernel_rfl) (fun w' hw' => ?_) ?_
                    rotate_left
                    · go_simp; with_reducible rfl
                    simp only [Act.put, List.setIfInBounds_toArray, List.set_cons_zero, List.set_cons_succ]
                    refine wpR_call (i := 21) (v := (.int .u32 (W (tn 17 x2)))) (⟨fun _ => rfl, Eq.trans⟩) (some 95) rfl (by kernel_rfl) (by kernel_rfl) (by kernel_rfl) (by kernel_rfl) (by kernel_rfl) (fun _ _ _ h => h) (by kernel_rfl) (fun w' hw' => ?_) ?_
                    · refine ⟨70, #[.int .u32 (W x2), .int .i64 17], ?_, ?_⟩
                      · go_simp
                      · exact back_17 _ _
                    simp only [Act.put, List.setIfInBounds_toArray, List.set_cons_zero, List.set_cons_succ]
                    refine wpR_take (i := 22) (v := ?_) (⟨fun _ => rfl, Eq.trans⟩) (some 96) rfl (by kernel_rfl) (by kernel_rfl) (by kernel_rfl) (by kernel_rfl) (by kernel_rfl) (fun _ _ _ h => h) (by kernel_rfl) (fun w' hw' => ?_) ?_
                    rotate_left
                    · go_simp; with_reducible rfl
                    simp only [Act.put, List.setIfInBounds_toArray, List.set_cons_zero, List.set_cons_succ]
                    refine wpR_call (i := 23) (v := (.int .u32 (W (tn 19 x2)))) (⟨fun _ => rfl, Eq.trans⟩) (some 97) rfl (by kernel_rfl) (by kernel_rfl) (by kernel_rfl) (by kernel_rfl) (by kernel_rfl) (fun _ _ _ h => h) (by kernel_rfl) (fun w' hw' => ?_) ?_
                    · refine ⟨70, #[.int .u32 (W x2), .int .i64 19], ?_, ?_⟩
                      · go_simp
                      · exact back_19 _ _
                    simp only [Act.put, List.setIfInBounds_toArray, List.set_cons_zero, List.set_cons_succ]
                    refine wpR_take (i := 24) (v := ?_) (⟨fun _ => rfl, Eq.trans⟩) (some 98) rfl (by kernel_rfl) (by kernel_rfl) (by kernel_rfl) (by kernel_rfl) (by kernel_rfl) (fun _ _ _ h => h) (by kernel_rfl) (fun w' hw' => ?_) ?_
                    rotate_left
                    · go_simp; with_reducible rfl
                    simp only [Act.put, List.setIfInBounds_toArray, List.set_cons_zero, List.set_cons_succ]
                    refine wpR_take (i := 25) (v := ?_) (⟨fun _ => rfl, Eq.trans⟩) (some 99) rfl (by kernel_rfl) (by kernel_rfl) (by kernel_rfl) (by kernel_rfl) (by kernel_rfl) (fun _ _ _ h => h) (by kernel_rfl) (fun w' hw' => ?_) ?_
                    rotate_left
                    · go_simp; with_reducible rfl
                    simp only [Act.put, List.setIfInBounds_toArray, List.set_cons_zero, List.set_cons_succ]
                    refine wpR_take (i := 26) (v := ?_) (⟨fun _ => rfl, Eq.trans⟩) (some 100) rfl (by kernel_rfl) (by kernel_rfl) (by kernel_rfl) (by kernel_rfl) (by kernel_rfl) (fun _ _ _ h => h) (by kernel_rfl) (fun w' hw' => ?_) ?_
                    rotate_left
                    · go_simp; with_reducible rfl
                    simp only [Act.put, List.setIfInBounds_toArray, List.set_cons_zero, List.set_cons_succ]
                    refine wpR_take (i := 27) (v := ?_) (⟨fun _ => rfl, Eq.trans⟩) (some 101) rfl (by kernel_rfl) (by kernel_rfl) (by kernel_rfl) (by kernel_rfl) (by kernel_rfl) (fun _ _ _ h => h) (by kernel_rfl) (fun w' hw' => ?_) ?_
                    rotate_left
                    · go_simp; with_reducible rfl
                    simp only [Act.put, List.setIfInBounds_toArray, List.set_cons_zero, List.set_cons_succ]
                    refine wpR_take (i := 28) (v := ?_) (⟨fun _ => rfl, Eq.trans⟩) (some 102) rfl (by kernel_rfl) (by kernel_rfl) (by kernel_rfl) (by kernel_rfl) (by kernel_rfl) (fun _ _ _ h => h) (by kernel_rfl) (fun w' hw' => ?_) ?_
                    rotate_left
                    · go_simp; with_reducible rfl
                    simp only [Act.put, List.setIfInBounds_toArray, List.set_cons_zero, List.set_cons_succ]
                    refine wpR_take (i := 29) (v := ?_) (⟨fun _ => rfl, Eq.trans⟩) (some 103) rfl (by kernel_rfl) (by kernel_rfl) (by kernel_rfl) (by kernel_rfl) (by kernel_rfl) (fun _ _ _ h => h) (by kernel_rfl) (fun w' hw' => ?_) ?_
                    rotate_left
                    · go_simp; with_reducible rfl
                    simp only [Act.put, List.setIfInBounds_toArray, List.set_cons_zero, List.set_cons_succ]
                    refine wpR_take (i := 30) (v := ?_) (⟨fun _ => rfl, Eq.trans⟩) (some 104) rfl (by kernel_rfl) (by kernel_rfl) (by kernel_rfl) (by kernel_rfl) (by kernel_rfl) (fun _ _ _ h => h) (by kernel_rfl) (fun w' hw' => ?_) ?_
                    rotate_left
                    · go_simp; with_reducible rfl
                    simp only [Act.put, List.setIfInBounds_toArray, List.set_cons_zero, List.set_cons_succ]
                    refine wpR_one 31 rfl (by kernel_rfl) (by kernel_rfl) (fun K hK => ?_)
                    go_simp
                    refine hK _ _ (fun h => absurd h (by decide)) ?_
                    clear hK K
                    try simp only [Act.put, List.setIfInBounds_toArray, List.set_cons_zero, List.set_cons_succ]
                    refine wpR_done (by kernel_rfl) ?_ _
                    have hv : x4 + (x3 + (tn 7 x1 ^^^ tn 18 x1 ^^^ x1 >>> 3) + (tn 17 x2 ^^^ tn 19 x2 ^^^ x2 >>> 10)) = wd b m := by
                      rw [wd_high b (by omega : 16 ≤ m), ← sum_assoc, g1.out, g2.out, g3.out, g4.out]; rfl
                    rw [hv]
                    have hS9 : Hid (St w (wn.setCell ⟨gw, r4, none⟩ (.int .u32 (W (wd b m)))).drew.drew g gw gx s (rg b (m + 1)) (rnd s (wd b) m)) := Lib.hid ((hS.out.setW (by omega) _).drew.drew.congr (fun _ _ => rfl) (fun j hj => by rw [rg_succ b hj, f4.out]) (fun _ _ => rfl))
                    clear c1 c2 c3 c4 c5 fz m1 m2 m3 n1 n2 n3 n4 l1 l2 l3 l4 hv
                    go_wp2_with fail
                    go_meet
                    exact hS9
              case rest =>
                as_aux_lemma =>
                  clear hS
                  obtain ⟨x, hx⟩ : ∃ x, rnd s (wd b) m = x := ⟨_, rfl⟩
                  have hnext : Hid (rnd s (wd b) (m + 1) = nx x (kF m) (wd b m)) := Lib.hid (by rw [← hx]; rfl)
                  rw [hx] at hcut
                  replace hx := Lib.hid hx
                  obtain ⟨r4, f4⟩ : ∃ r, m % 16 = r := ⟨_, rfl⟩
                  have v4 : rg b (m + 1) r4 = wd b m := by rw [← f4]; exact rg_at (by omega) (by omega)
                  obtain ⟨wm, hwm⟩ : ∃ y, wd b m = y := ⟨_, rfl⟩
                  rw [hwm] at v4 hnext
                  have hr16 : r4 < 16 := by omega
                  have n4 : Int.tmod (m : Int) 16 = (r4 : Int) := by rw [← f4]; exact Int.ofNat_tmod m 16
                  have l4 : (r4 : Int) < 16 := by omega
                  obtain ⟨km, hkm⟩ : ∃ y, kF m = y := ⟨_, rfl⟩
                  have hst := stone_any m hm64
                  rw [hkm] at hst hnext
                  replace hst := Lib.hid hst
                  replace hkm := Lib.hid hkm
                  replace hwm := Lib.hid hwm
                  replace v4 := Lib.hid v4
                  replace f4 := Lib.hid f4
                  have hSd : Hid (St w wc.drew g gw gx s (rg b (m + 1)) x) := Lib.hid hcut.out.drew
                  clear hcut
                  go_wp2_with fail
                  refine wpR_region (Gr) 9999 (by kernel_rfl) ?_
                  refine wpR_take (i := 0) (v := ?_) (Gr.road) (some 105) rfl (by kernel_rfl) (by kernel_rfl) (by kernel_rfl) (by kernel_rfl) (by kernel_rfl) (fun _ _ _ h => h) (by kernel_rfl) (fun w' hw' => ?_) ?_
                  rotate_left
                  · go_simp; with_reducible rfl
                  simp only [Act.put, List.setIfInBounds_toArray, List.set_cons_zero, List.set_cons_succ]
                  refine wpR_take (i := 1) (v := ?_) (Gr.road) (some 106) rfl (by kernel_rfl) (by kernel_rfl) (by kernel_rfl) (by kernel_rfl) (by kernel_rfl) (fun _ _ _ h => h) (by kernel_rfl) (fun w' hw' => ?_) ?_
                  rotate_left
                  · go_simp; with_reducible rfl
                  simp only [Act.put, List.setIfInBounds_toArray, List.set_cons_zero, List.set_cons_succ]
                  refine wpR_take (i := 2) (v := ?_) (Gr.road) (some 107) rfl (by kernel_rfl) (by kernel_rfl) (by kernel_rfl) (by kernel_rfl) (by kernel_rfl) (fun _ _ _ h => h) (by kernel_rfl) (fun w' hw' => ?_) ?_
                  rotate_left
                  · have c9 := (St.gr hw' hSd).out.x.at (i := 7) (by decide); go_simp; with_reducible rfl
                  simp only [Act.put, List.setIfInBounds_toArray, List.set_cons_zero, List.set_cons_succ]
                  refine wpR_take (i := 3) (v := ?_) (Gr.road) (some 108) rfl (by kernel_rfl) (by kernel_rfl) (by kernel_rfl) (by kernel_rfl) (by kernel_rfl) (fun _ _ _ h => h) (by kernel_rfl) (fun w' hw' => ?_) ?_
                  rotate_left
                  · go_simp; with_reducible rfl
                  simp only [Act.put, List.setIfInBounds_toArray, List.set_cons_zero, List.set_cons_succ]
                  refine wpR_take (i := 4) (v := ?_) (Gr.road) (some 109) rfl (by kernel_rfl) (by kernel_rfl) (by kernel_rfl) (by kernel_rfl) (by kernel_rfl) (fun _ _ _ h => h) (by kernel_rfl) (fun w' hw' => ?_) ?_
                  rotate_left
                  · go_simp; with_reducible rfl
                  simp only [Act.put, List.setIfInBounds_toArray, List.set_cons_zero, List.set_cons_succ]
                  refine wpR_take (i := 5) (v := ?_) (Gr.road) (some 110) rfl (by kernel_rfl) (by kernel_rfl) (by kernel_rfl) (by kernel_rfl) (by kernel_rfl) (fun _ _ _ h => h) (by kernel_rfl) (fun w' hw' => ?_) ?_
                  rotate_left
                  · have c9 := (St.gr hw' hSd).out.x.at (i := 4) (by decide); go_simp; with_reducible rfl
                  simp only [Act.put, List.setIfInBounds_toArray, List.set_cons_zero, List.set_cons_succ]
                  refine wpR_call (i := 6) (v := (.int .u32 (W (tn 6 (x 4))))) (Gr.road) (some 111) rfl (by kernel_rfl) (by kernel_rfl) (by kernel_rfl) (by kernel_rfl) (by kernel_rfl) (fun _ _ _ h => h) (by kernel_rfl) (fun w' hw' => ?_) ?_
                  · refine ⟨70, #[.int .u32 (W (x 4)), .int .i64 6], ?_, ?_⟩
                    · go_simp
                    · exact back_6 _ _
                  simp only [Act.put, List.setIfInBounds_toArray, List.set_cons_zero, List.set_cons_succ]
                  refine wpR_take (i := 7) (v := ?_) (Gr.road) (some 112) rfl (by kernel_rfl) (by kernel_rfl) (by kernel_rfl) (by kernel_rfl) (by kernel_rfl) (fun _ _ _ h => h) (by kernel_rfl) (fun w' hw' => ?_) ?_
                  rotate_left
                  · go_simp; with_reducible rfl
                  simp only [Act.put, List.setIfInBounds_toArray, List.set_cons_zero, List.set_cons_succ]
                  refine wpR_take (i := 8) (v := ?_) (Gr.road) (some 113) rfl (by kernel_rfl) (by kernel_rfl) (by kernel_rfl) (by kernel_rfl) (by kernel_rfl) (fun _ _ _ h => h) (by kernel_rfl) (fun w' hw' => ?_) ?_
                  rotate_left
                  · go_simp; with_reducible rfl
                  simp only [Act.put, List.setIfInBounds_toArray, List.set_cons_zero, List.set_cons_succ]
                  refine wpR_take (i := 9) (v := ?_) (Gr.road) (some 114) rfl (by kernel_rfl) (by kernel_rfl) (by kernel_rfl) (by kernel_rfl) (by kernel_rfl) (fun _ _ _ h => h) (by kernel_rfl) (fun w' hw' => ?_) ?_
                  rotate_left
                  · have c9 := (St.gr hw' hSd).out.x.at (i := 4) (by decide); go_simp; with_reducible rfl
                  simp only [Act.put, List.setIfInBounds_toArray, List.set_cons_zero, List.set_cons_succ]
                  refine wpR_call (i := 10) (v := (.int .u32 (W (tn 11 (x 4))))) (Gr.road) (some 115) rfl (by kernel_rfl) (by kernel_rfl) (by kernel_rfl) (by kernel_rfl) (by kernel_rfl) (fun _ _ _ h => h) (by kernel_rfl) (fun w' hw' => ?_) ?_
                  · refine ⟨70, #[.int .u32 (W (x 4)), .int .i64 11], ?_, ?_⟩
                    · go_simp
                    · exact back_11 _ _
                  simp only [Act.put, List.setIfInBounds_toArray, List.set_cons_zero, List.set_cons_succ]
                  refine wpR_take (i := 11) (v := ?_) (Gr.road) (some 116) rfl (by kernel_rfl) (by kernel_rfl) (by kernel_rfl) (by kernel_rfl) (by kernel_rfl) (fun _ _ _ h => h) (by kernel_rfl) (fun w' hw' => ?_) ?_
                  rotate_left
                  · go_simp; with_reducible rfl
                  simp only [Act.put, List.setIfInBounds_toArray, List.set_cons_zero, List.set_cons_succ]
                  refine wpR_take (i := 12) (v := ?_) (Gr.road) (some 117) rfl (by kernel_rfl) (by kernel_rfl) (by kernel_rfl) (by kernel_rfl) (by kernel_rfl) (fun _ _ _ h => h) (by kernel_rfl) (fun w' hw' => ?_) ?_
                  rotate_left
                  · go_simp; with_reducible rfl
                  simp only [Act.put, List.setIfInBounds_toArray, List.set_cons_zero, List.set_cons_succ]
                  refine wpR_take (i := 13) (v := ?_) (Gr.road) (some 118) rfl (by kernel_rfl) (by kernel_rfl) (by kernel_rfl) (by kernel_rfl) (by kernel_rfl) (fun _ _ _ h => h) (by kernel_rfl) (fun w' hw' => ?_) ?_
                  rotate_left
                  · go_simp; with_reducible rfl
                  simp only [Act.put, List.setIfInBounds_toArray, List.set_cons_zero, List.set_cons_succ]
                  refine wpR_take (i := 14) (v := ?_) (Gr.road) (some 119) rfl (by kernel_rfl) (by kernel_rfl) (by kernel_rfl) (by kernel_rfl) (by kernel_rfl) (fun _ _ _ h => h) (by kernel_rfl) (fun w' hw' => ?_) ?_
                  rotate_left
                  · have c9 := (St.gr hw' hSd).out.x.at (i := 4) (by decide); go_simp; with_reducible rfl
                  simp only [Act.put, List.setIfInBounds_toArray, List.set_cons_zero, List.set_cons_succ]
                  refine wpR_call (i := 15) (v := (.int .u32 (W (tn 25 (x 4))))) (Gr.road) (some 120) rfl (by kernel_rfl) (by kernel_rfl) (by kernel_rfl) (by kernel_rfl) (by kernel_rfl) (fun _ _ _ h => h) (by kernel_rfl) (fun w' hw' => ?_) ?_
                  · refine ⟨70, #[.int .u32 (W (x 4)), .int .i64 25], ?_, ?_⟩
                    · go_simp
                    · exact back_25 _ _
                  simp only [Act.put, List.setIfInBounds_toArray, List.set_cons_zero, List.set_cons_succ]
                  refine wpR_take (i := 16) (v := ?_) (Gr.road) (some 121) rfl (by kernel_rfl) (by kernel_rfl) (by kernel_rfl) (by kernel_rfl) (by kernel_rfl) (fun _ _ _ h => h) (by kernel_rfl) (fun w' hw' => ?_) ?_
                  rotate_left
                  · go_simp; with_reducible rfl
                  simp only [Act.put, List.setIfInBounds_toArray, List.set_cons_zero, List.set_cons_succ]
                  refine wpR_take (i := 17) (v := ?_) (Gr.road) (some 122) rfl (by kernel_rfl) (by kernel_rfl) (by kernel_rfl) (by kernel_rfl) (by kernel_rfl) (fun _ _ _ h => h) (by kernel_rfl) (fun w' hw' => ?_) ?_
                  rotate_left
                  · go_simp; with_reducible rfl
                  simp only [Act.put, List.setIfInBounds_toArray, List.set_cons_zero, List.set_cons_succ]
                  refine wpR_take (i := 18) (v := ?_) (Gr.road) (some 123) rfl (by kernel_rfl) (by kernel_rfl) (by kernel_rfl) (by kernel_rfl) (by kernel_rfl) (fun _ _ _ h => h) (by kernel_rfl) (fun w' hw' => ?_) ?_
                  rotate_left
                  · go_simp; with_reducible rfl
                  simp only [Act.put, List.setIfInBounds_toArray, List.set_cons_zero, List.set_cons_succ]
                  refine wpR_take (i := 19) (v := ?_) (Gr.road) (some 124) rfl (by kernel_rfl) (by kernel_rfl) (by kernel_rfl) (by kernel_rfl) (by kernel_rfl) (fun _ _ _ h => h) (by kernel_rfl) (fun w' hw' => ?_) ?_
                  rotate_left
                  · go_simp; with_reducible rfl
                  simp only [Act.put, List.setIfInBounds_toArray, List.set_cons_zero, List.set_cons_succ]
                  refine wpR_take (i := 20) (v := ?_) (Gr.road) (some 125) rfl (by kernel_rfl) (by kernel_rfl) (by kernel_rfl) (by kernel_rfl) (by kernel_rfl) (fun _ _ _ h => h) (by kernel_rfl) (fun w' hw' => ?_) ?_
                  rotate_left
                  · have c9 := (St.gr hw' hSd).out.x.at (i := 6) (by decide); go_simp; with_reducible rfl
                  simp only [Act.put, List.setIfInBounds_toArray, List.set_cons_zero, List.set_cons_succ]
                  refine wpR_take (i := 21) (v := ?_) (Gr.road) (some 126) rfl (by kernel_rfl) (by kernel_rfl) (by kernel_rfl) (by kernel_rfl) (by kernel_rfl) (fun _ _ _ h => h) (by kernel_rfl) (fun w' hw' => ?_) ?_
                  rotate_left
                  · go_simp; with_reducible rfl
                  simp only [Act.put, List.setIfInBounds_toArray, List.set_cons_zero, List.set_cons_succ]
                  refine wpR_take (i := 22) (v := ?_) (Gr.road) (some 127) rfl (by kernel_rfl) (by kernel_rfl) (by kernel_rfl) (by kernel_rfl) (by kernel_rfl) (fun _ _ _ h => h) (by kernel_rfl) (fun w' hw' => ?_) ?_
                  rotate_left
                  · go_simp; with_reducible rfl
                  simp only [Act.put, List.setIfInBounds_toArray, List.set_cons_zero, List.set_cons_succ]
                  refine wpR_take (i := 23) (v := ?_) (Gr.road) (some 128) rfl (by kernel_rfl) (by kernel_rfl) (by kernel_rfl) (by kernel_rfl) (by kernel_rfl) (fun _ _ _ h => h) (by kernel_rfl) (fun w' hw' => ?_) ?_
                  rotate_left
                  · have c9 := (St.gr hw' hSd).out.x.at (i := 4) (by decide); go_simp; with_reducible rfl
                  simp only [Act.put, List.setIfInBounds_toArray, List.set_cons_zero, List.set_cons_succ]
                  refine wpR_take (i := 24) (v := ?_) (Gr.road) (some 129) rfl (by kernel_rfl) (by kernel_rfl) (by kernel_rfl) (by kernel_rfl) (by kernel_rfl) (fun _ _ _ h => h) (by kernel_rfl) (fun w' hw' => ?_) ?_
                  rotate_left
                  · go_simp; with_reducible rfl
                  simp only [Act.put, List.setIfInBounds_toArray, List.set_cons_zero, List.set_cons_succ]
                  refine wpR_take (i := 25) (v := ?_) (Gr.road) (some 130) rfl (by kernel_rfl) (by kernel_rfl) (by kernel_rfl) (by kernel_rfl) (by kernel_rfl) (fun _ _ _ h => h) (by kernel_rfl) (fun w' hw' => ?_) ?_
                  rotate_left
                  · go_simp; with_reducible rfl
                  simp only [Act.put, List.setIfInBounds_toArray, List.set_cons_zero, List.set_cons_succ]
                  refine wpR_take (i := 26) (v := ?_) (Gr.road) (some 131) rfl (by kernel_rfl) (by kernel_rfl) (by kernel_rfl) (by kernel_rfl) (by kernel_rfl) (fun _ _ _ h => h) (by kernel_rfl) (fun w' hw' => ?_) ?_
                  rotate_left
                  · have c9 := (St.gr hw' hSd).out.x.at (i := 5) (by decide); go_simp; with_reducible rfl
                  simp only [Act.put, List.setIfInBounds_toArray, List.set_cons_zero, List.set_cons_succ]
                  refine wpR_take (i := 27) (v := ?_) (Gr.road) (some 132) rfl (by kernel_rfl) (by kernel_rfl) (by kernel_rfl) (by kernel_rfl) (by kernel_rfl) (fun _ _ _ h => h) (by kernel_rfl) (fun w' hw' => ?_) ?_
                  rotate_left
                  · go_simp; with_reducible rfl
                  simp only [Act.put, List.setIfInBounds_toArray, List.set_cons_zero, List.set_cons_succ]
                  refine wpR_take (i := 28) (v := ?_) (Gr.road) (some 133) rfl (by kernel_rfl) (by kernel_rfl) (by kernel_rfl) (by kernel_rfl) (by kernel_rfl) (fun _ _ _ h => h) (by kernel_rfl) (fun w' hw' => ?_) ?_
                  rotate_left
                  · go_simp; with_reducible rfl
                  simp only [Act.put, List.setIfInBounds_toArray, List.set_cons_zero, List.set_cons_succ]
                  refine wpR_take (i := 29) (v := ?_) (Gr.road) (some 134) rfl (by kernel_rfl) (by kernel_rfl) (by kernel_rfl) (by kernel_rfl) (by kernel_rfl) (fun _ _ _ h => h) (by kernel_rfl) (fun w' hw' => ?_) ?_
                  rotate_left
                  · have c9 := (St.gr hw' hSd).out.x.at (i := 6) (by decide); go_simp; with_reducible rfl
                  simp only [Act.put, List.setIfInBounds_toArray, List.set_cons_zero, List.set_cons_succ]
                  refine wpR_take (i := 30) (v := ?_) (Gr.road) (some 135) rfl (by kernel_rfl) (by kernel_rfl) (by kernel_rfl) (by kernel_rfl) (by kernel_rfl) (fun _ _ _ h => h) (by kernel_rfl) (fun w' hw' => ?_) ?_
                  rotate_left
                  · go_simp; with_reducible rfl
                  simp only [Act.put, List.setIfInBounds_toArray, List.set_cons_zero, List.set_cons_succ]
                  refine wpR_take (i := 31) (v := ?_) (Gr.road) (some 136) rfl (by kernel_rfl) (by kernel_rfl) (by kernel_rfl) (by kernel_rfl) (by kernel_rfl) (fun _ _ _ h => h) (by kernel_rfl) (fun w' hw' => ?_) ?_
                  rotate_left
                  · go_simp; with_reducible rfl
                  simp only [Act.put, List.setIfInBounds_toArray, List.set_cons_zero, List.set_cons_succ]
                  refine wpR_take (i := 32) (v := ?_) (Gr.road) (some 137) rfl (by kernel_rfl) (by kernel_rfl) (by kernel_rfl) (by kernel_rfl) (by kernel_rfl) (fun _ _ _ h => h) (by kernel_rfl) (fun w' hw' => ?_) ?_
                  rotate_left
                  · go_simp; with_reducible rfl
                  simp only [Act.put, List.setIfInBounds_toArray, List.set_cons_zero, List.set_cons_succ]
                  refine wpR_take (i := 33) (v := ?_) (Gr.road) (some 138) rfl (by kernel_rfl) (by kernel_rfl) (by kernel_rfl) (by kernel_rfl) (by kernel_rfl) (fun _ _ _ h => h) (by kernel_rfl) (fun w' hw' => ?_) ?_
                  rotate_left
                  · go_simp; with_reducible rfl
                  simp only [Act.put, List.setIfInBounds_toArray, List.set_cons_zero, List.set_cons_succ]
                  refine wpR_take (i := 34) (v := ?_) (Gr.road) (some 139) rfl (by kernel_rfl) (by kernel_rfl) (by kernel_rfl) (by kernel_rfl) (by kernel_rfl) (fun _ _ _ h => h) (by kernel_rfl) (fun w' hw' => ?_) ?_
                  rotate_left
                  · go_simp; with_reducible rfl
                  simp only [Act.put, List.setIfInBounds_toArray, List.set_cons_zero, List.set_cons_succ]
                  refine wpR_take (i := 37) (v := ?_) (Gr.road) (some 142) rfl (by kernel_rfl) (by kernel_rfl) (by kernel_rfl) (by kernel_rfl) (by kernel_rfl) (fun _ _ _ h => h) (by kernel_rfl) (fun w' hw' => ?_) ?_
                  rotate_left
                  · go_simp; with_reducible rfl
                  simp only [Act.put, List.setIfInBounds_toArray, List.set_cons_zero, List.set_cons_succ]
                  refine wpR_take (i := 38) (v := ?_) (Gr.road) (some 143) rfl (by kernel_rfl) (by kernel_rfl) (by kernel_rfl) (by kernel_rfl) (by kernel_rfl) (fun _ _ _ h => h) (by kernel_rfl) (fun w' hw' => ?_) ?_
                  rotate_left
                  · go_simp; with_reducible rfl
                  simp only [Act.put, List.setIfInBounds_toArray, List.set_cons_zero, List.set_cons_succ]
                  refine wpR_take (i := 39) (v := ?_) (Gr.road) (some 144) rfl (by kernel_rfl) (by kernel_rfl) (by kernel_rfl) (by kernel_rfl) (by kernel_rfl) (fun _ _ _ h => h) (by kernel_rfl) (fun w' hw' => ?_) ?_
                  rotate_left
                  · go_simp; with_reducible rfl
                  simp only [Act.put, List.setIfInBounds_toArray, List.set_cons_zero, List.set_cons_succ]
                  refine wpR_take (i := 40) (v := ?_) (Gr.road) (some 145) rfl (by kernel_rfl) (by kernel_rfl) (by kernel_rfl) (by kernel_rfl) (by kernel_rfl) (fun _ _ _ h => h) (by kernel_rfl) (fun w' hw' => ?_) ?_
                  rotate_left
                  · go_simp; with_reducible rfl
                  simp only [Act.put, List.setIfInBounds_toArray, List.set_cons_zero, List.set_cons_succ]
                  refine wpR_take (i := 41) (v := ?_) (Gr.road) (some 146) rfl (by kernel_rfl) (by kernel_rfl) (by kernel_rfl) (by kernel_rfl) (by kernel_rfl) (fun _ _ _ h => h) (by kernel_rfl) (fun w' hw' => ?_) ?_
                  rotate_left
                  · have c9 := (St.gr hw' hSd).out.w.at (i := r4) hr16; rw [v4.out] at c9; go_simp; with_reducible rfl
                  simp only [Act.put, List.setIfInBounds_toArray, List.set_cons_zero, List.set_cons_succ]
                  refine wpR_one 35 rfl (by kernel_rfl) (by kernel_rfl) (fun K hK => ?_)
                  go_simp
                  refine (hst.out _).mono ?_
                  rintro e w7 ⟨rfl, hr7⟩
                  refine hK _ _ (fun _ => hr7) ?_
                  clear hK K
                  have hS7 := St.gr hr7 hSd
                  clear hr7 hSd hst
                  try simp only [Act.put, List.setIfInBounds_toArray, List.set_cons_zero, List.set_cons_succ]
                  refine wpR_take (i := 36) (v := ?_) (Gr.road) (some 141) rfl (by kernel_rfl) (by kernel_rfl) (by kernel_rfl) (by kernel_rfl) (by kernel_rfl) (fun _ _ _ h => h) (by kernel_rfl) (fun w' hw' => ?_) ?_
                  rotate_left
                  · go_simp; with_reducible rfl
                  simp only [Act.put, List.setIfInBounds_toArray, List.set_cons_zero, List.set_cons_succ]
                  refine wpR_take (i := 42) (v := ?_) (Gr.road) (some 147) rfl (by kernel_rfl) (by kernel_rfl) (by kernel_rfl) (by kernel_rfl) (by kernel_rfl) (fun _ _ _ h => h) (by kernel_rfl) (fun w' hw' => ?_) ?_
                  rotate_left
                  · go_simp; with_reducible rfl
                  simp only [Act.put, List.setIfInBounds_toArray, List.set_cons_zero, List.set_cons_succ]
                  refine wpR_take (i := 43) (v := ?_) (Gr.road) (some 12) rfl (by kernel_rfl) (by kernel_rfl) (by kernel_rfl) (by kernel_rfl) (by kernel_rfl) (fun _ _ _ h => h) (by kernel_rfl) (fun w' hw' => ?_) ?_
                  rotate_left
                  · go_simp; with_reducible rfl
                  simp only [Act.put, List.setIfInBounds_toArray, List.set_cons_zero, List.set_cons_succ]
                  refine wpR_done (by kernel_rfl) ?_ _
                  generalize hoo : x 7 + (tn 6 (x 4) ^^^ tn 11 (x 4) ^^^ tn 25 (x 4)) + (x 6 ^^^ x 4 &&& (x 5 ^^^ x 6)) + km + wm = o
                  have hoo2 : o = one1 x km wm := by rw [← hoo, ch_eq]; rfl
                  replace hoo := Lib.hid hoo
                  replace hoo2 := Lib.hid hoo2
                  clear n4 l4
                  go_wp2_with fail
                  have hS8 : Hid (St w w7.drew g gw gx s (rg b (m + 1)) x) := Lib.hid hS7.out.drew
                  clear hS7
                  refine wpR_region (Eq) 9999 (by kernel_rfl) ?_
                  refine wpR_take (i := 0) (v := ?_) (⟨fun _ => rfl, Eq.trans⟩) (some 148) rfl (by kernel_rfl) (by kernel_rfl) (by kernel_rfl) (by kernel_rfl) (by kernel_rfl) (fun _ _ _ h => h) (by kernel_rfl) (fun w' hw' => ?_) ?_
                  rotate_left
                  · go_simp; with_reducible rfl
                  simp only [Act.put, List.setIfInBounds_toArray, List.set_cons_zero, List.set_cons_succ]
                  refine wpR_take (i := 1) (v := ?_) (⟨fun _ => rfl, Eq.trans⟩) (some 149) rfl (by kernel_rfl) (by kernel_rfl) (by kernel_rfl) (by kernel_rfl) (by kernel_rfl) (fun _ _ _ h => h) (by kernel_rfl) (fun w' hw' => ?_) ?_
                  rotate_left
                  · go_simp; with_reducible rfl
                  simp only [Act.put, List.setIfInBounds_toArray, List.set_cons_zero, List.set_cons_succ]
                  refine wpR_take (i := 2) (v := ?_) (⟨fun _ => rfl, Eq.trans⟩) (some 150) rfl (by kernel_rfl) (by kernel_rfl) (by kernel_rfl) (by kernel_rfl) (by kernel_rfl) (fun _ _ _ h => h) (by kernel_rfl) (fun w' hw' => ?_) ?_
                  rotate_left
                  · subst hw'; have c9 := hS8.out.x.at (i := 0) (by decide); go_simp; with_reducible rfl
                  simp only [Act.put, List.setIfInBounds_toArray, List.set_cons_zero, List.set_cons_succ]
                  refine wpR_call (i := 3) (v := (.int .u32 (W (tn 2 (x 0))))) (⟨fun _ => rfl, Eq.trans⟩) (some 151) rfl (by kernel_rfl) (by kernel_rfl) (by kernel_rfl) (by kernel_rfl) (by kernel_rfl) (fun _ _ _ h => h) (by kernel_rfl) (fun w' hw' => ?_) ?_
                  · refine ⟨70, #[.int .u32 (W (x 0)), .int .i64 2], ?_, ?_⟩
                    · go_simp
                    · exact back_2 _ _
                  simp only [Act.put, List.setIfInBounds_toArray, List.set_cons_zero, List.set_cons_succ]
                  refine wpR_take (i := 4) (v := ?_) (⟨fun _ => rfl, Eq.trans⟩) (some 152) rfl (by kernel_rfl) (by kernel_rfl) (by kernel_rfl) (by kernel_rfl) (by kernel_rfl) (fun _ _ _ h => h) (by kernel_rfl) (fun w' hw' => ?_) ?_
                  rotate_left
                  · go_simp; with_reducible rfl
                  simp only [Act.put, List.setIfInBounds_toArray, List.set_cons_zero, List.set_cons_succ]
                  refine wpR_take (i := 5) (v := ?_) (⟨fun _ => rfl, Eq.trans⟩) (some 153) rfl (by kernel_rfl) (by kernel_rfl) (by kernel_rfl) (by kernel_rfl) (by kernel_rfl) (fun _ _ _ h => h) (by kernel_rfl) (fun w' hw' => ?_) ?_
                  rotate_left
                  · go_simp; with_reducible rfl
                  simp only [Act.put, List.setIfInBounds_toArray, List.set_cons_zero, List.set_cons_succ]
                  refine wpR_take (i := 6) (v := ?_) (⟨fun _ => rfl, Eq.trans⟩) (some 154) rfl (by kernel_rfl) (by kernel_rfl) (by kernel_rfl) (by kernel_rfl) (by kernel_rfl) (fun _ _ _ h => h) (by kernel_rfl) (fun w' hw' => ?_) ?_
                  rotate_left
                  · subst hw'; have c9 := hS8.out.x.at (i := 0) (by decide); go_simp; with_reducible rfl
                  simp only [Act.put, List.setIfInBounds_toArray, List.set_cons_zero, List.set_cons_succ]
                  refine wpR_call (i := 7) (v := (.int .u32 (W (tn 13 (x 0))))) (⟨fun _ => rfl, Eq.trans⟩) (some 155) rfl (by kernel_rfl) (by kernel_rfl) (by kernel_rfl) (by kernel_rfl) (by kernel_rfl) (fun _ _ _ h => h) (by kernel_rfl) (fun w' hw' => ?_) ?_
                  · refine ⟨70, #[.int .u32 (W (x 0)), .int .i64 13], ?_, ?_⟩
                    · go_simp
                    · exact back_13 _ _
                  simp only [Act.put, List.setIfInBounds_toArray, List.set_cons_zero, List.set_cons_succ]
                  refine wpR_take (i := 8) (v := ?_) (⟨fun _ => rfl, Eq.trans⟩) (some 156) rfl (by kernel_rfl) (by kernel_rfl) (by kernel_rfl) (by kernel_rfl) (by kernel_rfl) (fun _ _ _ h => h) (by kernel_rfl) (fun w' hw' => ?_) ?_
                  rotate_left
                  · go_simp; with_reducible rfl
                  simp only [Act.put, List.setIfInBounds_toArray, List.set_cons_zero, List.set_cons_succ]
                  refine wpR_take (i := 9) (v := ?_) (⟨fun _ => rfl, Eq.trans⟩) (some 157) rfl (by kernel_rfl) (by kernel_rfl) (by kernel_rfl) (by kernel_rfl) (by kernel_rfl) (fun _ _ _ h => h) (by kernel_rfl) (fun w' hw' => ?_) ?_
                  rotate_left
                  · go_simp; with_reducible rfl
                  simp only [Act.put, List.setIfInBounds_toArray, List.set_cons_zero, List.set_cons_succ]
                  refine wpR_take (i := 10) (v := ?_) (⟨fun _ => rfl, Eq.trans⟩) (some 158) rfl (by kernel_rfl) (by kernel_rfl) (by kernel_rfl) (by kernel_rfl) (by kernel_rfl) (fun _ _ _ h => h) (by kernel_rfl) (fun w' hw' => ?_) ?_
                  rotate_left
                  · go_simp; with_reducible rfl
                  simp only [Act.put, List.setIfInBounds_toArray, List.set_cons_zero, List.set_cons_succ]
                  refine wpR_take (i := 11) (v := ?_) (⟨fun _ => rfl, Eq.trans⟩) (some 159) rfl (by kernel_rfl) (by kernel_rfl) (by kernel_rfl) (by kernel_rfl) (by kernel_rfl) (fun _ _ _ h => h) (by kernel_rfl) (fun w' hw' => ?_) ?_
                  rotate_left
                  · subst hw'; have c9 := hS8.out.x.at (i := 0) (by decide); go_simp; with_reducible rfl
                  simp only [Act.put, List.setIfInBounds_toArray, List.set_cons_zero, List.set_cons_succ]
                  refine wpR_call (i := 12) (v := (.int .u32 (W (tn 22 (x 0))))) (⟨fun _ => rfl, Eq.trans⟩) (some 160) rfl (by kernel_rfl) (by kernel_rfl) (by kernel_rfl) (by kernel_rfl) (by kernel_rfl) (fun _ _ _ h => h) (by kernel_rfl) (fun w' hw' => ?_) ?_
                  · refine ⟨70, #[.int .u32 (W (x 0)), .int .i64 22], ?_, ?_⟩
                    · go_simp
                    · exact back_22 _ _
                  simp only [Act.put, List.setIfInBounds_toArray, List.set_cons_zero, List.set_cons_succ]
                  refine wpR_take (i := 13) (v := ?_) (⟨fun _ => rfl, Eq.trans⟩) (some 161) rfl (by kernel_rfl) (by kernel_rfl) (by kernel_rfl) (by kernel_rfl) (by kernel_rfl) (fun _ _ _ h => h) (by kernel_rfl) (fun w' hw' => ?_) ?_
                  rotate_left
                  · go_simp; with_reducible rfl
                  simp only [Act.put, List.setIfInBounds_toArray, List.set_cons_zero, List.set_cons_succ]
                  refine wpR_take (i := 14) (v := ?_) (⟨fun _ => rfl, Eq.trans⟩) (some 162) rfl (by kernel_rfl) (by kernel_rfl) (by kernel_rfl) (by kernel_rfl) (by kernel_rfl) (fun _ _ _ h => h) (by kernel_rfl) (fun w' hw' => ?_) ?_
                  rotate_left
                  · go_simp; with_reducible rfl
                  simp only [Act.put, List.setIfInBounds_toArray, List.set_cons_zero, List.set_cons_succ]
                  refine wpR_take (i := 15) (v := ?_) (⟨fun _ => rfl, Eq.trans⟩) (some 163) rfl (by kernel_rfl) (by kernel_rfl) (by kernel_rfl) (by kernel_rfl) (by kernel_rfl) (fun _ _ _ h => h) (by kernel_rfl) (fun w' hw' => ?_) ?_
                  rotate_left
                  · go_simp; with_reducible rfl
                  simp only [Act.put, List.setIfInBounds_toArray, List.set_cons_zero, List.set_cons_succ]
                  refine wpR_take (i := 16) (v := ?_) (⟨fun _ => rfl, Eq.trans⟩) (some 164) rfl (by kernel_rfl) (by kernel_rfl) (by kernel_rfl) (by kernel_rfl) (by kernel_rfl) (fun _ _ _ h => h) (by kernel_rfl) (fun w' hw' => ?_) ?_
                  rotate_left
                  · subst hw'; have c9 := hS8.out.x.at (i := 0) (by decide); go_simp; with_reducible rfl
                  simp only [Act.put, List.setIfInBounds_toArray, List.set_cons_zero, List.set_cons_succ]
                  refine wpR_take (i := 17) (v := ?_) (⟨fun _ => rfl, Eq.trans⟩) (some 165) rfl (by kernel_rfl) (by kernel_rfl) (by kernel_rfl) (by kernel_rfl) (by kernel_rfl) (fun _ _ _ h => h) (by kernel_rfl) (fun w' hw' => ?_) ?_
                  rotate_left
                  · go_simp; with_reducible rfl
                  simp only [Act.put, List.setIfInBounds_toArray, List.set_cons_zero, List.set_cons_succ]
                  refine wpR_take (i := 18) (v := ?_) (⟨fun _ => rfl, Eq.trans⟩) (some 166) rfl (by kernel_rfl) (by kernel_rfl) (by kernel_rfl) (by kernel_rfl) (by kernel_rfl) (fun _ _ _ h => h) (by kernel_rfl) (fun w' hw' => ?_) ?_
                  rotate_left
                  · go_simp; with_reducible rfl
                  simp only [Act.put, List.setIfInBounds_toArray, List.set_cons_zero, List.set_cons_succ]
                  refine wpR_take (i := 19) (v := ?_) (⟨fun _ => rfl, Eq.trans⟩) (some 167) rfl (by kernel_rfl) (by kernel_rfl) (by kernel_rfl) (by kernel_rfl) (by kernel_rfl) (fun _ _ _ h => h) (by kernel_rfl) (fun w' hw' => ?_) ?_
                  rotate_left
                  · subst hw'; have c9 := hS8.out.x.at (i := 1) (by decide); go_simp; with_reducible rfl
                  simp only [Act.put, List.setIfInBounds_toArray, List.set_cons_zero, List.set_cons_succ]
                  refine wpR_take (i := 20) (v := ?_) (⟨fun _ => rfl, Eq.trans⟩) (some 168) rfl (by kernel_rfl) (by kernel_rfl) (by kernel_rfl) (by kernel_rfl) (by kernel_rfl) (fun _ _ _ h => h) (by kernel_rfl) (fun w' hw' => ?_) ?_
                  rotate_left
                  · go_simp; with_reducible rfl
                  simp only [Act.put, List.setIfInBounds_toArray, List.set_cons_zero, List.set_cons_succ]
                  refine wpR_take (i := 21) (v := ?_) (⟨fun _ => rfl, Eq.trans⟩) (some 169) rfl (by kernel_rfl) (by kernel_rfl) (by kernel_rfl) (by kernel_rfl) (by kernel_rfl) (fun _ _ _ h => h) (by kernel_rfl) (fun w' hw' => ?_) ?_
                  rotate_left
                  · go_simp; with_reducible rfl
                  simp only [Act.put, List.setIfInBounds_toArray, List.set_cons_zero, List.set_cons_succ]
                  refine wpR_take (i := 22) (v := ?_) (⟨fun _ => rfl, Eq.trans⟩) (some 170) rfl (by kernel_rfl) (by kernel_rfl) (by kernel_rfl) (by kernel_rfl) (by kernel_rfl) (fun _ _ _ h => h) (by kernel_rfl) (fun w' hw' => ?_) ?_
                  rotate_left
                  · subst hw'; have c9 := hS8.out.x.at (i := 2) (by decide); go_simp; with_reducible rfl
                  simp only [Act.put, List.setIfInBounds_toArray, List.set_cons_zero, List.set_cons_succ]
                  refine wpR_take (i := 23) (v := ?_) (⟨fun _ => rfl, Eq.trans⟩) (some 171) rfl (by kernel_rfl) (by kernel_rfl) (by kernel_rfl) (by kernel_rfl) (by kernel_rfl) (fun _ _ _ h => h) (by kernel_rfl) (fun w' hw' => ?_) ?_
                  rotate_left
                  · go_simp; with_reducible rfl
                  simp only [Act.put, List.setIfInBounds_toArray, List.set_cons_zero, List.set_cons_succ]
                  refine wpR_take (i := 24) (v := ?_) (⟨fun _ => rfl, Eq.trans⟩) (some 172) rfl (by kernel_rfl) (by kernel_rfl) (by kernel_rfl) (by kernel_rfl) (by kernel_rfl) (fun _ _ _ h => h) (by kernel_rfl) (fun w' hw' => ?_) ?_
                  rotate_left
                  · go_simp; with_reducible rfl
                  simp only [Act.put, List.setIfInBounds_toArray, List.set_cons_zero, List.set_cons_succ]
                  refine wpR_take (i := 25) (v := ?_) (⟨fun _ => rfl, Eq.trans⟩) (some 173) rfl (by kernel_rfl) (by kernel_rfl) (by kernel_rfl) (by kernel_rfl) (by kernel_rfl) (fun _ _ _ h => h) (by kernel_rfl) (fun w' hw' => ?_) ?_
                  rotate_left
                  · go_simp; with_reducible rfl
                  simp only [Act.put, List.setIfInBounds_toArray, List.set_cons_zero, List.set_cons_succ]
                  refine wpR_take (i := 26) (v := ?_) (⟨fun _ => rfl, Eq.trans⟩) (some 174) rfl (by kernel_rfl) (by kernel_rfl) (by kernel_rfl) (by kernel_rfl) (by kernel_rfl) (fun _ _ _ h => h) (by kernel_rfl) (fun w' hw' => ?_) ?_
                  rotate_left
                  · go_simp; with_reducible rfl
                  simp only [Act.put, List.setIfInBounds_toArray, List.set_cons_zero, List.set_cons_succ]
                  refine wpR_take (i := 27) (v := ?_) (⟨fun _ => rfl, Eq.trans⟩) (some 175) rfl (by kernel_rfl) (by kernel_rfl) (by kernel_rfl) (by kernel_rfl) (by kernel_rfl) (fun _ _ _ h => h) (by kernel_rfl) (fun w' hw' => ?_) ?_
                  rotate_left
                  · subst hw'; have c9 := hS8.out.x.at (i := 1) (by decide); go_simp; with_reducible rfl
                  simp only [Act.put, List.setIfInBounds_toArray, List.set_cons_zero, List.set_cons_succ]
                  refine wpR_take (i := 28) (v := ?_) (⟨fun _ => rfl, Eq.trans⟩) (some 176) rfl (by kernel_rfl) (by kernel_rfl) (by kernel_rfl) (by kernel_rfl) (by kernel_rfl) (fun _ _ _ h => h) (by kernel_rfl) (fun w' hw' => ?_) ?_
                  rotate_left
                  · go_simp; with_reducible rfl
                  simp only [Act.put, List.setIfInBounds_toArray, List.set_cons_zero, List.set_cons_succ]
                  refine wpR_take (i := 29) (v := ?_) (⟨fun _ => rfl, Eq.trans⟩) (some 177) rfl (by kernel_rfl) (by kernel_rfl) (by kernel_rfl) (by kernel_rfl) (by kernel_rfl) (fun _ _ _ h => h) (by kernel_rfl) (fun w' hw' => ?_) ?_
                  rotate_left
                  · go_simp; with_reducible rfl
                  simp only [Act.put, List.setIfInBounds_toArray, List.set_cons_zero, List.set_cons_succ]
                  refine wpR_take (i := 30) (v := ?_) (⟨fun _ => rfl, Eq.trans⟩) (some 178) rfl (by kernel_rfl) (by kernel_rfl) (by kernel_rfl) (by kernel_rfl) (by kernel_rfl) (fun _ _ _ h => h) (by kernel_rfl) (fun w' hw' => ?_) ?_
                  rotate_left
                  · subst hw'; have c9 := hS8.out.x.at (i := 2) (by decide); go_simp; with_reducible rfl
                  simp only [Act.put, List.setIfInBounds_toArray, List.set_cons_zero, List.set_cons_succ]
                  refine wpR_take (i := 31) (v := ?_) (⟨fun _ => rfl, Eq.trans⟩) (some 179) rfl (by kernel_rfl) (by kernel_rfl) (by kernel_rfl) (by kernel_rfl) (by kernel_rfl) (fun _ _ _ h => h) (by kernel_rfl) (fun w' hw' => ?_) ?_
                  rotate_left
                  · go_simp; with_reducible rfl
                  simp only [Act.put, List.setIfInBounds_toArray, List.set_cons_zero, List.set_cons_succ]
                  refine wpR_take (i := 32) (v := ?_) (⟨fun _ => rfl, Eq.trans⟩) (some 180) rfl (by kernel_rfl) (by kernel_rfl) (by kernel_rfl) (by kernel_rfl) (by kernel_rfl) (fun _ _ _ h => h) (by kernel_rfl) (fun w' hw' => ?_) ?_
                  rotate_left
                  · go_simp; with_reducible rfl
                  simp only [Act.put, List.setIfInBounds_toArray, List.set_cons_zero, List.set_cons_succ]
                  refine wpR_take (i := 33) (v := ?_) (⟨fun _ => rfl, Eq.trans⟩) (some 181) rfl (by kernel_rfl) (by kernel_rfl) (by kernel_rfl) (by kernel_rfl) (by kernel_rfl) (fun _ _ _ h => h) (by kernel_rfl) (fun w' hw' => ?_) ?_
                  rotate_left
                  · go_simp; with_reducible rfl
                  simp only [Act.put, List.setIfInBounds_toArray, List.set_cons_zero, List.set_cons_succ]
                  refine wpR_take (i := 34) (v := ?_) (⟨fun _ => rfl, Eq.trans⟩) (some 13) rfl (by kernel_rfl) (by kernel_rfl) (by kernel_rfl) (by kernel_rfl) (by kernel_rfl) (fun _ _ _ h => h) (by kernel_rfl) (fun w' hw' => ?_) ?_
                  rotate_left
                  · go_simp; with_reducible rfl
                  simp only [Act.put, List.setIfInBounds_toArray, List.set_cons_zero, List.set_cons_succ]
                  refine wpR_done (by kernel_rfl) ?_ _
                  generalize htt : (tn 2 (x 0) ^^^ tn 13 (x 0) ^^^ tn 22 (x 0)) + (x 0 &&& (x 1 ||| x 2) ||| x 1 &&& x 2) = t
                  have htt2 : t = two2 x + mj3w (x 0) (x 1) (x 2) := by rw [← htt, mj_eq]; rfl
                  replace htt := Lib.hid htt
                  replace htt2 := Lib.hid htt2
                  have hS9 : Hid (St w w7.drew g gw gx s (rg b (m + 1)) (shf x 7)) := Lib.hid (hS8.out.congr (fun _ _ => rfl) (fun _ _ => rfl) (fun j hj => shf_seven x hj))
                  clear hS8
                  go_wp2_with fail
                  go_loopw [14] (fun v wr => ∃ (i : Nat), i ≤ 7 ∧ v = .int .i64 i ∧ Hid (St w wr g gw gx s (rg b (m + 1)) (shf x i))) (fun v _ => (intOf v).toNat)
                  case atStart => exact ⟨7, by omega, rfl, hS9⟩
                  case round =>
                    obtain ⟨i, hi, rfl, hI⟩ := hrel
                    clear hS9
                    by_cases hi0 : 0 < i
                    · as_aux_lemma =>
                        have ii0 : (0 : Int) < (i : Int) := by omega
                        obtain ⟨p, hp⟩ : ∃ p, i - 1 = p := ⟨_, rfl⟩
                        have e1 : IntKind.i64.wrap ((i : Int) - 1) = (p : Int) := by rw [i64_wrap_id (by omega) (by omega)]; omega
                        have e2 : (i : Int) - 1 = (p : Int) := by omega
                        have cp := hI.out.x.at (i := p) (by omega)
                        have hshp : shf x i p = x p := by unfold shf; rw [if_neg (by omega)]
                        rw [hshp] at cp
                        have ci := hI.out.x.at (i := i) (by omega)
                        have fz := hI.out.x.free i
                        have lp : (p : Int) < 8 := by omega
                        have li : (i : Int) < 8 := by omega
                        generalize shf x i i = z at ci
                        have hI9 : Hid (St w (wr.setCell ⟨gx, i, none⟩ (.int .u32 (W (x p)))) g gw gx s (rg b (m + 1)) (shf x p)) := Lib.hid ((hI.out.setX (by omega) _).congr (fun _ _ => rfl) (fun _ _ => rfl) (fun j hj => by rw [← hp]; exact shf_pred x i j hi0))
                        replace hp := Lib.hid hp
                        replace hshp := Lib.hid hshp
                        go_wp2_with fail
                        go_roundw
                        case rel => first | exact ⟨p, by omega, by first | rfl | go_num, hI9⟩ | ((repeat apply Exists.intro); refine ⟨⟨p, by omega, ?_, hI9⟩, rfl⟩; (first | rfl | go_num))
                        case measure => simp [intOf]; omega
                    · as_aux_lemma =>
                        obtain rfl : i = 0 := by omega
                        have ii0 : decide ((0 : Int) < ((0 : Nat) : Int)) = false := by decide
                        clear hi0
                        have hsh4 : shf x 0 4 = x 3 := rfl
                        have c4 := hI.out.x.at (i := 4) (by decide)
                        rw [hsh4] at c4
                        have fz4 := hI.out.x.free 4
                        have hI4 := hI.out.setX (i := 4) (by decide) (x 3 + o)
                        have c0 := hI4.x.at (i := 0) (by decide)
                        have fz0 := hI4.x.free 0
                        have cc0 := hI.out.x.at (i := 0) (by decide)
                        have fzz0 := hI.out.x.free 0
                        have hI9 : Hid (St w ((wr.setCell ⟨gx, 4, none⟩ (.int .u32 (W (x 3 + o)))).setCell ⟨gx, 0, none⟩ (.int .u32 (W (o + t)))) g gw gx s (rg b (m + 1)) (rnd s (wd b) (m + 1))) := Lib.hid ((hI4.setX (i := 0) (by decide) (o + t)).congr (fun _ _ => rfl) (fun _ _ => rfl) (fun j hj => by rw [hnext.out]; exact shf_nx x km wm o t hoo2.out htt2.out j))
                        replace hI4 := Lib.hid hI4
                        go_wp2_with fail
                        go_roundw
                        case rel => first | exact ⟨m + 1, by omega, by go_num, hI9⟩ | ((repeat apply Exists.intro); refine ⟨⟨m + 1, by omega, ?_, hI9⟩, rfl⟩; (go_num))
                        case measure => simp [intOf]; omega
          · as_aux_lemma =>
              obtain rfl : m = 64 := by omega
              have im64 : decide (((64 : Nat) : Int) < 64) = false := by decide
              clear hm64
              have hH0 : Hid (St w wn g gw gx (hTo s (wd b) 0) (rg b 64) (rnd s (wd b) 64)) := Lib.hid (hS.out.congr (fun j _ => hTo_zero s (wd b) j) (fun _ _ => rfl) (fun _ _ => rfl))
              clear hS
              go_wp2_with fail
              go_loopw [15] (fun v wr => ∃ (i : Nat), i ≤ 8 ∧ v = .int .i64 i ∧ Hid (St w wr g gw gx (hTo s (wd b) i) (rg b 64) (rnd s (wd b) 64))) (fun v _ => (8 - intOf v).toNat)
              case atStart => exact ⟨0, by omega, rfl, hH0⟩
              case round =>
                obtain ⟨i, hi, rfl, hI⟩ := hrel
                clear hH0
                by_cases hi8 : i < 8
                · as_aux_lemma =>
                    have ii8 : (i : Int) < 8 := by omega
                    go_wp2_with fail
                    have ch := (show St w wr.drew g gw gx (hTo s (wd b) i) (rg b 64) (rnd s (wd b) 64) from hI.out.drew).h.at (i := i) hi8
                    have hhi : hTo s (wd b) i i = s i := by unfold hTo; rw [if_neg (by omega)]
                    rw [hhi] at ch
                    have cx2 := (show St w wr.drew g gw gx (hTo s (wd b) i) (rg b 64) (rnd s (wd b) 64) from hI.out.drew).x.at (i := i) hi8
                    have fz := hI.out.h.free i
                    obtain ⟨y1, hy1⟩ : ∃ y, s i = y := ⟨_, rfl⟩
                    obtain ⟨y2, hy2⟩ : ∃ y, rnd s (wd b) 64 i = y := ⟨_, rfl⟩
                    rw [hy1] at ch
                    rw [hy2] at cx2
                    have hI9 : Hid (St w (wr.setCell ⟨g, i, none⟩ (.int .u32 (W (y1 + y2)))).drew g gw gx (hTo s (wd b) (i + 1)) (rg b 64) (rnd s (wd b) 64)) := Lib.hid ((hI.out.setH hi8 _).drew.congr (fun j _ => by rw [← hy1, ← hy2]; exact hTo_succ s (wd b) i j) (fun _ _ => rfl) (fun _ _ => rfl))
                    replace hy1 := Lib.hid hy1
                    replace hy2 := Lib.hid hy2
                    replace hhi := Lib.hid hhi
                    refine wpR_region (Eq) 10 (by kernel_rfl) ?_
                    refine wpR_take (i := 0) (v := ?_) (⟨fun _ => rfl, Eq.trans⟩) (some 209) rfl (by kernel_rfl) (by kernel_rfl) (by kernel_rfl) (by kernel_rfl) (by kernel_rfl) (fun _ _ _ h => h) (by kernel_rfl) (fun w' hw' => ?_) ?_
                    rotate_left
                    · go_simp; with_reducible rfl
                    simp only [Act.put, List.setIfInBounds_toArray, List.set_cons_zero, List.set_cons_succ]
                    refine wpR_take (i := 1) (v := ?_) (⟨fun _ => rfl, Eq.trans⟩) (some 210) rfl (by kernel_rfl) (by kernel_rfl) (by kernel_rfl) (by kernel_rfl) (by kernel_rfl) (fun _ _ _ h => h) (by kernel_rfl) (fun w' hw' => ?_) ?_
                    rotate_left
                    · go_simp; with_reducible rfl
                    simp only [Act.put, List.setIfInBounds_toArray, List.set_cons_zero, List.set_cons_succ]
                    refine wpR_take (i := 2) (v := ?_) (⟨fun _ => rfl, Eq.trans⟩) (some 211) rfl (by kernel_rfl) (by kernel_rfl) (by kernel_rfl) (by kernel_rfl) (by kernel_rfl) (fun _ _ _ h => h) (by kernel_rfl) (fun w' hw' => ?_) ?_
                    rotate_left
                    · go_simp; with_reducible rfl
                    simp only [Act.put, List.setIfInBounds_toArray, List.set_cons_zero, List.set_cons_succ]
                    refine wpR_take (i := 3) (v := ?_) (⟨fun _ => rfl, Eq.trans⟩) (some 212) rfl (by kernel_rfl) (by kernel_rfl) (by kernel_rfl) (by kernel_rfl) (by kernel_rfl) (fun _ _ _ h => h) (by kernel_rfl) (fun w' hw' => ?_) ?_
                    rotate_left
                    · subst hw'; go_simp; with_reducible rfl
                    simp only [Act.put, List.setIfInBounds_toArray, List.set_cons_zero, List.set_cons_succ]
                    refine wpR_take (i := 4) (v := ?_) (⟨fun _ => rfl, Eq.trans⟩) (some 213) rfl (by kernel_rfl) (by kernel_rfl) (by kernel_rfl) (by kernel_rfl) (by kernel_rfl) (fun _ _ _ h => h) (by kernel_rfl) (fun w' hw' => ?_) ?_
                    rotate_left
                    · go_simp; with_reducible rfl
                    simp only [Act.put, List.setIfInBounds_toArray, List.set_cons_zero, List.set_cons_succ]
                    refine wpR_take (i := 5) (v := ?_) (⟨fun _ => rfl, Eq.trans⟩) (some 214) rfl (by kernel_rfl) (by kernel_rfl) (by kernel_rfl) (by kernel_rfl) (by kernel_rfl) (fun _ _ _ h => h) (by kernel_rfl) (fun w' hw' => ?_) ?_
                    rotate_left
                    · go_simp; with_reducible rfl
                    simp only [Act.put, List.setIfInBounds_toArray, List.set_cons_zero, List.set_cons_succ]
                    refine wpR_take (i := 6) (v := ?_) (⟨fun _ => rfl, Eq.trans⟩) (some 215) rfl (by kernel_rfl) (by kernel_rfl) (by kernel_rfl) (by kernel_rfl) (by kernel_rfl) (fun _ _ _ h => h) (by kernel_rfl) (fun w' hw' => ?_) ?_
                    rotate_left
                    · go_simp; with_reducible rfl
                    simp only [Act.put, List.setIfInBounds_toArray, List.set_cons_zero, List.set_cons_succ]
                    refine wpR_take (i := 7) (v := ?_) (⟨fun _ => rfl, Eq.trans⟩) (some 216) rfl (by kernel_rfl) (by kernel_rfl) (by kernel_rfl) (by kernel_rfl) (by kernel_rfl) (fun _ _ _ h => h) (by kernel_rfl) (fun w' hw' => ?_) ?_
                    rotate_left
                    · subst hw'; go_simp; with_reducible rfl
                    simp only [Act.put, List.setIfInBounds_toArray, List.set_cons_zero, List.set_cons_succ]
                    refine wpR_take (i := 8) (v := ?_) (⟨fun _ => rfl, Eq.trans⟩) (some 217) rfl (by kernel_rfl) (by kernel_rfl) (by kernel_rfl) (by kernel_rfl) (by kernel_rfl) (fun _ _ _ h => h) (by kernel_rfl) (fun w' hw' => ?_) ?_
                    rotate_left
                    · go_simp; with_reducible rfl
                    simp only [Act.put, List.setIfInBounds_toArray, List.set_cons_zero, List.set_cons_succ]
                    refine wpR_take (i := 9) (v := ?_) (⟨fun _ => rfl, Eq.trans⟩) (some 218) rfl (by kernel_rfl) (by kernel_rfl) (by kernel_rfl) (by kernel_rfl) (by kernel_rfl) (fun _ _ _ h => h) (by kernel_rfl) (fun w' hw' => ?_) ?_
                    rotate_left
                    · go_simp; with_reducible rfl
                    simp only [Act.put, List.setIfInBounds_toArray, List.set_cons_zero, List.set_cons_succ]
                    refine wpR_one 10 rfl (by kernel_rfl) (by kernel_rfl) (fun K hK => ?_)
                    go_simp
                    refine hK _ _ (fun h => absurd h (by decide)) ?_
                    clear hK K
                    try simp only [Act.put, List.setIfInBounds_toArray, List.set_cons_zero, List.set_cons_succ]
                    refine wpR_done (by kernel_rfl) ?_ _
                    go_wp2_with fail
                    go_roundw
                    case rel => first | exact ⟨i + 1, by omega, by go_num, hI9⟩ | ((repeat apply Exists.intro); refine ⟨⟨i + 1, by omega, ?_, hI9⟩, rfl⟩; (go_num))
                    case measure => simp [intOf]; omega
                · as_aux_lemma =>
                    obtain rfl : i = 8 := by omega
                    have ii8 : decide (((8 : Nat) : Int) < 8) = false := by decide
                    clear hi8
                    have hA9 : Hid (Av wr g 8 (stB (msg l) (k + 1))) := Lib.hid (by rw [hlast.out]; exact hI.out.h.congr (fun j hj => hTo_eight s (wd b) hj))
                    have hb9 : Hid (Below g w wr) := Lib.hid hI.out.q
                    have hT9 : 64 * (k + 1) = T + 64 := by have := hT.out; omega
                    clear hI
                    go_wp2_with fail
                    go_roundw
                    case rel => first | exact ⟨k + 1, by omega, by rw [hT9]; go_num, hA9, hb9⟩ | ((repeat apply Exists.intro); refine ⟨⟨k + 1, by omega, ?_, hA9, hb9⟩, rfl⟩; (rw [hT9]; go_num))
                    case measure => simp [intOf]; omega
    · as_aux_lemma =>
        obtain rfl : T = al := by omega
        have iT : decide ((T : Int) < (T : Int)) = false := decide_eq_false (by omega)
        clear hlt
        clear hat
        obtain ⟨s, hs⟩ : ∃ s, stB (msg l) k = s := ⟨_, rfl⟩
        rw [hs] at hA
        have hfin : Hid (dg l = row 32 (dgB s)) := Lib.hid (by unfold dg; rw [hl.out, hall.out, show T / 64 = k from by omega, hs])
        replace hs := Lib.hid hs
        have hE := Lib.hid (OB.empty wo wo.heap.size (Nat.le_refl _))
        have hEq : Gr wo (wo.alloc (.cells #[] 5)) := (Below.refl _ _).alloc (Nat.le_refl _) _
        have hA2 := Av.gr hEq hA
        have hb2 : Hid (Below g w (wo.alloc (.cells #[] 5))) := Lib.hid (hb.out.trans (Below.mono hEq (Nat.le_of_lt hA.out.lt)))
        have hgl := hA.out.lt
        clear hEq hA hb
        replace hT := Lib.hid hT
        go_wp2_with fail
        generalize hB0 : wo.heap.size = B0 at hE hgl ⊢
        have hsz0 : B0 ≤ (wo.alloc (.cells #[] 5)).heap.size := by rw [← hB0]; simp
        generalize wo.alloc (.cells #[] 5) = w1 at hE hA2 hb2 hsz0 ⊢
        replace hB0 := Lib.hid hB0
        go_loopw [16, 17] (fun v i wr => ∃ (j : Nat) (A4 : Option Addr) (c4 : Nat), j ≤ 32 ∧ v = .slice A4 j c4 ∧ i = .int .i64 j ∧ Hid (OB wr B0 (.slice A4 j c4) (row j (dgB s))) ∧ Hid (Av wr g 8 s) ∧ Hid (Below g w wr) ∧ B0 ≤ wr.heap.size) (fun _ i _ => (32 - intOf i).toNat)
        case atStart => exact ⟨0, _, _, by omega, rfl, rfl, hE, hA2, hb2, hsz0⟩
        case round =>
          obtain ⟨j, A4, c4, hj, rfl, rfl, ho, hA, hb, hB0s⟩ := hrel
          clear hE hA2 hb2 hsz0
          by_cases hj32 : j < 32
          · as_aux_lemma =>
              have ij : (j : Int) < 32 := by omega
              obtain ⟨r4, f4⟩ : ∃ r, j / 4 = r := ⟨_, rfl⟩
              obtain ⟨m4, g4⟩ : ∃ r, j % 4 = r := ⟨_, rfl⟩
              obtain ⟨sh, hsh⟩ : ∃ r, 24 - 8 * m4 = r := ⟨_, rfl⟩
              have n1 : Int.tdiv (j : Int) 4 = (r4 : Int) := by rw [Int.tdiv_eq_ediv_of_nonneg (by omega), ← f4]; omega
              have n2 : Int.tmod (j : Int) 4 = (m4 : Int) := by rw [← g4]; exact Int.ofNat_tmod j 4
              have n3 : IntKind.i64.wrap (8 * (m4 : Int)) = ((8 * m4 : Nat) : Int) := by rw [i64_wrap_id (by omega) (by omega)]; omega
              have n4 : IntKind.i64.wrap (24 - ((8 * m4 : Nat) : Int)) = (sh : Int) := by rw [i64_wrap_id (by omega) (by omega)]; omega
              have n5 : IntKind.u64.wrap (sh : Int) = (sh : Int) := by rw [bv_wrap 64 .u64 rfl rfl]; omega
              have n6 : min sh 32 = sh := by omega
              have l4 : (r4 : Int) < 8 := by omega
              have cA := hA.out.at (i := r4) (by omega)
              obtain ⟨y, hy⟩ : ∃ y, s r4 = y := ⟨_, rfl⟩
              rw [hy] at cA
              have hbyte : Hid (dgB s j = lo8 (y >>> sh)) := Lib.hid (by unfold dgB; rw [f4, g4, hsh, hy])
              generalize (8 * m4 : Nat) = e8 at n3 n4
              have n7 : W y / 2 ^ sh = W (y >>> sh) := u32_shr y sh
              replace f4 := Lib.hid f4
              replace g4 := Lib.hid g4
              replace hsh := Lib.hid hsh
              replace hy := Lib.hid hy
              have hrow := Lib.hid (row_snocD j (dgB s))
              have hlit := Lib.hid (Rd.lit wr #[.int .u8 (U (lo8 (y >>> sh)))] 5 [lo8 (y >>> sh)] rfl ((wr.alloc (.cells #[.int .u8 (U (lo8 (y >>> sh)))] 5)).heap.size) (by simp))
              have ho7 := Lib.hid (ho.out.alloc (.cells #[.int .u8 (U (lo8 (y >>> sh)))] 5))
              have hqq : Gr wr (wr.alloc (.cells #[.int .u8 (U (lo8 (y >>> sh)))] 5)) := (Below.refl _ _).alloc (Nat.le_refl _) _
              have hA7 := Av.gr hqq hA
              have hb7 : Hid (Below g w (wr.alloc (.cells #[.int .u8 (U (lo8 (y >>> sh)))] 5))) := Lib.hid (hb.out.trans (Below.mono hqq (Nat.le_of_lt hA.out.lt)))
              have hsz7 : B0 ≤ (wr.alloc (.cells #[.int .u8 (U (lo8 (y >>> sh)))] 5)).heap.size := Nat.le_trans hB0s hqq.size
              clear hqq
              have hbd : Hid ((row j (dgB s)).length + 1 ≤ 140737488355328) := Lib.hid (by rw [row_length]; omega)
              have hrl := Lib.hid (row_length j (dgB s))
              generalize hrr : row j (dgB s) = rr at ho ho7 hrow hbd hrl
              replace hrr := Lib.hid hrr
              go_wp2_with (at_builtin; go_must (refine wpl_append rfl (.tmp 224) (.tmp 237) rfl B0 (.slice A4 j c4) rr rfl ho7.out _ _ 1 [lo8 (y >>> sh)] rfl hlit.out hbd.out hsz7 ?_); intro v8 w8 ho8 hg8 _; have hq8 := below_rowD ho7.out (Below.refl B0 _) hsz7 hg8; rw [← hbyte.out, hrow.out] at ho8; obtain ⟨A8, c8, rfl, -, -, -, -⟩ := ho8.form; rw [row_length] at ho8 ⊢; replace ho8 := Lib.hid ho8; replace hA7 := Lib.hid (hA7.out.below hq8 hgl); replace hb7 := Lib.hid (hb7.out.trans (Below.mono hq8 (Nat.le_of_lt hgl))); replace hsz7 := Nat.le_trans hsz7 hq8.size; clear hg8 hq8)
              go_roundw
              case rel => first | exact ⟨j + 1, A8, c8, by omega, rfl, by go_num, ho8, hA7, hb7, hsz7⟩ | ((repeat apply Exists.intro); refine ⟨⟨j + 1, A8, c8, by omega, rfl, ?_, ho8, hA7, hb7, hsz7⟩, rfl⟩; (go_num))
              case measure => simp [intOf]; omega
          · as_aux_lemma =>
              obtain rfl : j = 32 := by omega
              have ij : decide (((32 : Nat) : Int) < 32) = false := by decide
              clear hj32
              have hstr := run_str_at c4 (OB.rd ho.out).1 (row_length _ _)
              go_wp2_with fail
              go_ret
              refine ⟨by rw [hfin.out]; rfl, ?_⟩
              show Below w.heap.size w _
              rw [hg.out]
              exact hb.out
end Go.Proofs.Ytdgkcgiknfjpjaa
