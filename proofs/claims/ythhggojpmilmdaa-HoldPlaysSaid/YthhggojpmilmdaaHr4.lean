/- hold: the reference's Order. -/
import Derived.Test.YthhggojpmilmdaaHr3
import Derived.Test.YthhggojpmilmdaaOs
namespace Go.Proofs.Ythhggojpmilmdaa
set_option linter.unusedVariables false
set_option linter.unusedSimpArgs false
open Go Go.RowKit
theorem OS.empty' (w : World) (base : Nat) (hb : base ≤ w.heap.size) : OS [] (.slice (some ⟨w.heap.size, 0, none⟩) 0 0) base (w.alloc (.cells #[] 9)) :=
  World.ownsRow_made w #[] 0 hb (by simp [maxLen]) rfl
def partR (R : List Rt) (s i : Nat) : List (List UInt8) := ordR R s ++ ((R.take i).filter (fun x => x.2 == s + 1)).map (fun x => x.1.1)
theorem part_zero (R : List Rt) (s : Nat) : partR R s 0 = ordR R s := by unfold partR; simp
theorem part_all (R : List Rt) (s : Nat) : partR R s R.length = ordR R (s + 1) := by unfold partR; rw [List.take_length]; rfl
theorem part_hit {R : List Rt} {s i : Nat} {x : Rt} (hx : R[i]? = some x) (h : x.2 = s + 1) : partR R s (i + 1) = partR R s i ++ [x.1.1] := by
  unfold partR
  rw [List.take_add_one, hx, List.filter_append, List.map_append, List.append_assoc]
  simp [h]
theorem part_miss {R : List Rt} {s i : Nat} {x : Rt} (hx : R[i]? = some x) (h : x.2 ≠ s + 1) : partR R s (i + 1) = partR R s i := by
  unfold partR
  rw [List.take_add_one, hx, List.filter_append, List.map_append]
  simp [h]
theorem ord_len (R : List Rt) : ∀ s, (ordR R s).length ≤ s * R.length
  | 0 => by simp [ordR]
  | s + 1 => by
    rw [ordR, List.length_append, List.length_map, Nat.succ_mul]
    have h1 := ord_len R s
    have h2 := List.length_filter_le (fun x : Rt => x.2 == s + 1) R
    omega
theorem part_len {R : List Rt} {s : Nat} (hR : R.length ≤ 1000) (hs : s ≤ 1000) (i : Nat) : (partR R s i).length ≤ 1001000 := by
  unfold partR
  rw [List.length_append, List.length_map]
  have h1 := ord_len R s
  have h2 := List.length_filter_le (fun x : Rt => x.2 == s + 1) (R.take i)
  have h3 : (R.take i).length ≤ R.length := by rw [List.length_take]; omega
  have h4 : s * R.length ≤ 1000 * 1000 := Nat.mul_le_mul hs hR
  omega
set_option maxHeartbeats 2000000 in
set_option maxRecDepth 10000 in
theorem rorder17_any (lo g : Nat) (vk vd vw : Value) (now q : Nat) (hnow : now ≤ 999) (R : List Rt) (hR : R.length ≤ 1000) (w : World) (h : Hid (Rh w lo g vk vd vw now q R)) :
    Calls Try.prog 20 #[.pointer (some ⟨g, 0, none⟩)] w fun e w' => ∃ v, e = .returned v ∧ Hid (OS (ordR R now) v w.heap.size w') ∧ GrM w w' := by
  obtain ⟨Ak, ck, Ad, cd, Aw, cw, rfl, rfl, rfl⟩ := h.out.form
  obtain ⟨n, hn⟩ : ∃ n, R.length = n := ⟨_, rfl⟩
  have h' := h.out
  rw [hn] at h'
  have hn1 : n ≤ 1000 := by omega
  replace h := Lib.hid h'
  have hn' := Lib.hid hn
  clear h' hn
  obtain ⟨B0, hB0⟩ : ∃ B0, w.heap.size = B0 := ⟨_, rfl⟩
  rw [hB0]
  have hcells : Hid (∀ wr, Below B0 w wr → Rh wr lo g (.slice Ak n ck) (.slice Ad n cd) (.slice Aw n cw) now q R) := Lib.hid (fun wr hb => (Rh.gr (by unfold GrM; rw [hB0]; exact hb) h).out)
  have ho1 : Hid (OS (ordR R 0) (.slice (some ⟨w.heap.size, 0, none⟩) 0 0) B0 (w.alloc (.cells #[] 9))) := Lib.hid (OS.empty' w B0 (by omega))
  have hb1 : Hid (Below B0 w (w.alloc (.cells #[] 9))) := Lib.hid (by rw [← hB0]; exact GrM.alloc _ _)
  replace hB0 := Lib.hid hB0
  go_enter Try.func20, Try.ntmps20
  go_wp2_with fail
  go_loopw [3, 4] (fun a z wr => ∃ (s : Nat) (vo : Value), vo = a ∧ z = .int .i64 ((s + 1 : Nat) : Int) ∧ s ≤ now ∧ Hid (OS (ordR R s) vo B0 wr) ∧ Hid (Below B0 w wr)) (fun _ z _ => now + 1 - (intOf z).toNat)
  case atStart => exact ⟨0, _, rfl, rfl, Nat.zero_le _, ho1, hb1⟩
  case round =>
    obtain ⟨s, vo, rfl, rfl, hs, hos, hgr⟩ := hrel
    clear ho1 hb1
    have hrh := hcells.out wr hgr.out
    have cg3 := blk_cell (j := 3) hrh.blk rfl
    by_cases hlt : s < now
    · have is1 : ((s + 1 : Nat) : Int) ≤ (now : Int) := by omega
      have is2 : (s : Int) + 1 ≤ (now : Int) := by omega
      have ho2 : Hid (OS (partR R s 0) vo B0 wr) := by rw [part_zero]; exact hos
      clear hrh
      go_wp2_with fail
      clear cg3
      go_loopw [3, 5] (fun a z wt => ∃ (i : Nat) (vi : Value), vi = a ∧ z = .int .i64 i ∧ i ≤ n ∧ Hid (OS (partR R s i) vi B0 wt) ∧ Hid (Below B0 w wt)) (fun _ z _ => n - (intOf z).toNat)
      case atStart => exact ⟨0, _, rfl, rfl, Nat.zero_le _, ho2, hgr⟩
      case round =>
        obtain ⟨i, vi, rfl, rfl, hi, hoi, hgi⟩ := hrel
        clear ho2
        rename World => wt
        have hrt := hcells.out wt hgi.out
        have d0 := blk_cell (j := 0) hrt.blk rfl
        have d2 := blk_cell (j := 2) hrt.blk rfl
        by_cases hil : i < n
        · have ii : (i : Int) < (n : Int) := by omega
          have iip : (0 : Int) ≤ (i : Int) := by omega
          obtain ⟨x, hx⟩ : ∃ x, R[i]? = some x := ⟨_, List.getElem?_eq_getElem (by rw [hn'.out]; exact hil)⟩
          obtain ⟨bk, bd, bw, rfl, rfl, rfl, -, -, -, -, -, hc⟩ := hrt.cells (by omega)
          obtain ⟨ca, -, cc⟩ := hc i x hx
          replace hx := Lib.hid hx
          clear hc hrt
          by_cases hxt : x.2 = s + 1
          · have ic : ((x.2 : Int) == ((s + 1 : Nat) : Int)) = true := by rw [hxt]; simp
            have icn : (x.2 == s + 1) = true := by rw [hxt]; simp
            have ic2 : ((x.2 : Int) == (s : Int) + 1) = true := by rw [hxt]; simp
            have hxt' := Lib.hid hxt
            clear hxt
            generalize hx2 : x.2 = xa at *
            replace hx2 := Lib.hid hx2
            have hlen : Hid ((partR R s i).length ≤ 100000000) := Lib.hid (Nat.le_trans (part_len (by rw [hn'.out]; exact hn1) (by omega) i) (by omega))
            have hoa : Hid (OS (partR R s i) vi B0 (wt.alloc (.cells #[.string (bs x.1.1)] 9))) := Lib.hid (OS.below (GrM.alloc _ _) hoi.out)
            have hsz : Hid (B0 ≤ wt.heap.size) := Lib.hid (by have := hgi.out.size; have := hB0.out; omega)
            have hpt := Lib.hid (part_hit hx.out (by rw [hx2.out]; exact hxt'.out))
            go_wp2_with (at_builtin; go_must (refine wpl_appS rfl (.tmp 33) (.tmp 41) rfl B0 vi (partR R s i) rfl hoa.out (some ⟨wt.heap.size, 0, none⟩) 1 (wt.heap.size + 1) x.1.1 rfl (sV_lit wt x.1.1) hlen.out (by have := hsz.out; simp; omega) ?_); intro v9 w9 ho9 hg9; rw [← hpt.out] at ho9)
            go_roundw
            case rel => first | exact ⟨i + 1, v9, rfl, by go_num, by omega, Lib.hid ho9, Lib.hid ((hgi.out.trans ((GrM.alloc wt (.cells #[.string (bs x.1.1)] 9)).mono hsz.out)).grown hg9 (by have := hsz.out; simp; omega) (fun j hj => (World.ownsRow.lt hoa.out j hj).1))⟩ | ((repeat apply Exists.intro); exact ⟨⟨i + 1, v9, rfl, by go_num, by omega, Lib.hid ho9, Lib.hid ((hgi.out.trans ((GrM.alloc wt (.cells #[.string (bs x.1.1)] 9)).mono hsz.out)).grown hg9 (by have := hsz.out; simp; omega) (fun j hj => (World.ownsRow.lt hoa.out j hj).1))⟩, rfl⟩)
            case measure => simp [intOf]; omega
          · have ic : ((x.2 : Int) == ((s + 1 : Nat) : Int)) = false := beq_false_of_ne (by omega)
            have icn : (x.2 == s + 1) = false := beq_false_of_ne hxt
            have ic2 : ((x.2 : Int) == (s : Int) + 1) = false := beq_false_of_ne (by omega)
            have hpt := Lib.hid (part_miss hx.out hxt)
            clear hxt
            generalize hx2 : x.2 = xa at *
            replace hx2 := Lib.hid hx2
            go_wp2_with fail
            go_roundw
            case rel => exact ⟨i + 1, vi, rfl, by go_num, by omega, by rw [hpt.out]; exact hoi, hgi⟩
            case measure => simp [intOf]; omega
        · obtain rfl : i = n := by omega
          have ii : decide ((i : Int) < (i : Int)) = false := decide_eq_false (by omega)
          have ho3 : Hid (OS (ordR R (s + 1)) vi B0 wt) := by
            have := hoi.out
            rw [← hn'.out, part_all] at this
            exact Lib.hid this
          clear hrt
          go_wp2_with fail
          go_roundw
          case rel => exact ⟨s + 1, vi, rfl, by go_num, by omega, ho3, hgi⟩
          case measure => simp [intOf]; omega
    · obtain rfl : s = now := by omega
      have is1 : decide (((s + 1 : Nat) : Int) ≤ (s : Int)) = false := decide_eq_false (by omega)
      have is2 : decide ((s : Int) + 1 ≤ (s : Int)) = false := decide_eq_false (by omega)
      clear hrh
      go_wp2_with fail
      go_ret
      exact ⟨_, rfl, hos, by unfold GrM; rw [hB0.out]; exact hgr.out⟩
end Go.Proofs.Ythhggojpmilmdaa
