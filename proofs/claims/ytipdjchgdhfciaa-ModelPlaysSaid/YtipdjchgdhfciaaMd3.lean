/- model: Text; what a nil model answers. -/
import Derived.Test.YtipdjchgdhfciaaMd2
import Derived.Test.YtipdjchgdhfciaaWordTxt
namespace Go.Proofs.Ytipdjchgdhfciaa
set_option linter.unusedVariables false
set_option linter.unusedSimpArgs false
open Go Go.RowKit Go.Maps Go.Sort
def dataOf (L : List En) (k : List UInt8) : List UInt8 := ((L.find? (fun e => e.1 == k)).map (fun e => e.2.2)).getD []
def addT (acc m : List UInt8) : List UInt8 := (acc ++ enc m.length) ++ m
def stepT (L : List En) (acc k : List UInt8) : List UInt8 := addT (addT acc k) (dataOf L k)
/-- all of it -/
def textL (L : List En) : List UInt8 := (keysL L).foldl (stepT L) []
theorem dataOf_at {L : List En} (h : Dist L) {e : En} (he : e ∈ L) : dataOf L e.1 = e.2.2 := by
  unfold dataOf
  induction L with
  | nil => cases he
  | cons x L ih =>
    obtain ⟨h1, h2⟩ := List.pairwise_cons.mp h
    rw [List.find?_cons]
    rcases List.mem_cons.mp he with rfl | he
    · simp
    · have : (x.1 == e.1) = false := by simpa using h1 e he
      rw [this]
      exact ih h2 he
theorem keysL_mem {L : List En} {k : List UInt8} : k ∈ keysL L ↔ ∃ e ∈ L, e.1 = k := by
  unfold keysL
  rw [(List.mergeSort_perm _ _).mem_iff, List.mem_map]
theorem addT_len (acc m : List UInt8) (h : m.length ≤ 512) : (addT acc m).length ≤ acc.length + 600 := by
  unfold addT
  have := enc_length m.length (by omega)
  rw [List.length_append, List.length_append]
  omega
theorem foldT_len (L : List En) (hok : ∀ e ∈ L, e.1.length ≤ 16 ∧ e.2.2.length ≤ 512) (hd : Dist L) (ks : List (List UInt8)) (hk : ∀ k ∈ ks, ∃ e ∈ L, e.1 = k) (acc : List UInt8) : (ks.foldl (stepT L) acc).length ≤ acc.length + 1200 * ks.length := by
  induction ks generalizing acc with
  | nil => simp
  | cons k ks ih =>
    obtain ⟨e, he, rfl⟩ := hk k (by simp)
    have h1 := ih (fun k hk' => hk k (by simp [hk'])) (stepT L acc e.1)
    obtain ⟨h2, h3⟩ := hok e he
    have h4 := addT_len acc e.1 (by omega)
    have h5 := addT_len (addT acc e.1) (dataOf L e.1) (by rw [dataOf_at hd he]; exact h3)
    have h6 : (stepT L acc e.1).length ≤ acc.length + 1200 := by unfold stepT; omega
    rw [List.foldl_cons, List.length_cons]
    omega
set_option maxHeartbeats 2000000 in
set_option maxRecDepth 10000 in
theorem text22_any (lo g b n : Nat) (L : List En) (hL : L.length ≤ 100000) (w : World) (h : Hid (Md w lo g b n L)) :
    Calls Try.prog 16 #[.pointer (some ⟨g, 0, none⟩)] w fun e w' => e = .returned (.string (bs (textL L))) ∧ GrM w w' := by
  have hkeys := Lib.hid (keys22_any lo g b n L (by omega) w h)
  obtain ⟨N, hN⟩ : ∃ N, L.length = N := ⟨_, rfl⟩
  have hKl : Hid ((keysL L).length = N) := Lib.hid (by rw [keysL_len, hN])
  have hok : Hid (∀ e ∈ L, e.1.length ≤ 16 ∧ e.2.2.length ≤ 512) := Lib.hid (fun e he => ⟨(h.out.ok e he).2.1, (h.out.ok e he).2.2⟩)
  have hd := Lib.hid h.out.dist
  obtain ⟨B, hB⟩ : ∃ B, w.heap.size = B := ⟨_, rfl⟩
  have hB' : Hid (B = w.heap.size) := Lib.hid hB.symm
  rw [hN] at hL hkeys
  rw [hB] at hkeys
  have hBg : Hid (∀ x, Below B w x → GrM w x) := Lib.hid (fun x h => by unfold GrM; rw [hB]; exact h)
  replace hN := Lib.hid hN
  replace hB := Lib.hid hB
  go_enter Try.func16, Try.ntmps16
  go_upto_region 2 with (fail)
  go_wp2_with (go_at_call 14; go_must (refine hkeys.out.mono ?_); rintro e w1 ⟨v7, rfl, hrow, hg1⟩; obtain ⟨A7, c7, rfl, hn7, hm7⟩ := row_form hrow)
  replace hg1 := Lib.hid hg1
  replace hrow := Lib.hid hrow
  have hz1 : Hid (B ≤ w1.heap.size) := Lib.hid (by rw [hB'.out]; exact hg1.out.size)
  go_loopw [3, 9] (fun v z wr => ∃ (j m : Nat) (A3 : Option Addr) (c3 : Nat), j ≤ N ∧ z = .int .i64 j ∧ v = .slice A3 m c3 ∧ Hid ((((keysL L).take j).foldl (stepT L) []).length = m) ∧ Hid (OB wr B (.slice A3 m c3) (((keysL L).take j).foldl (stepT L) [])) ∧ Hid (GrM w1 wr)) (fun _ z _ => (N - intOf z).toNat)
  case atStart => exact ⟨0, 0, none, 0, Nat.zero_le _, rfl, rfl, Lib.hid rfl, Lib.hid (OB.nil_ _ _), Lib.hid (GrM.refl _)⟩
  case round =>
    obtain ⟨j, m, A3, c3, hj, rfl, rfl, hlen, ho, hgr⟩ := hrel
    have hgw := Lib.hid (hg1.out.trans hgr.out)
    have hm120 : m ≤ 1200 * 100000 := by
      rw [← hlen.out]
      have := foldT_len L hok.out hd.out ((keysL L).take j) (fun k hk => keysL_mem.mp (List.mem_of_mem_take hk)) []
      rw [List.length_take] at this
      simp at this
      omega
    by_cases hjn : j < N
    · have ij : (j : Int) < (N : Int) := by omega
      obtain ⟨gk, ck, ek, -, -, -, hgl, -, -, hcell, -⟩ := row_at (row_below hrow.out hgr.out) (by omega)
      have ek' : A7 = some ⟨gk, 0, none⟩ := by injection ek
      subst ek'
      clear ek
      obtain ⟨k, hk⟩ : ∃ k, (keysL L)[j]? = some k := ⟨_, List.getElem?_eq_getElem (by rw [hKl.out]; exact hjn)⟩
      have ck0 : wr.cell? ⟨gk, j, none⟩ = some (.string (bs k)) := hcell j _ (by rw [List.getElem?_map, hk]; rfl)
      obtain ⟨x, hx, hxk⟩ := keysL_mem.mp (List.mem_of_getElem? hk)
      have hkl : k.length ≤ 16 := by rw [← hxk]; exact (hok.out x hx).1
      have hnext : Hid (((keysL L).take (j + 1)).foldl (stepT L) [] = stepT L (((keysL L).take j).foldl (stepT L) []) k) := Lib.hid (by
        rw [List.take_add_one, hk, List.foldl_append]; rfl)
      obtain ⟨acc, hacc⟩ : ∃ acc, ((keysL L).take j).foldl (stepT L) [] = acc := ⟨_, rfl⟩
      rw [hacc] at hnext hlen ho
      have hkey := keyS (k := k) (by simp only [maxLen]; omega)
      have hrd := (ho.out.rd).1
      have ht1 := Lib.hid (text_any A3 m c3 acc hlen.out k (by omega) wr hrd)
      have hrx : Hid (∀ w', GrM w w' → ∃ Ax cx, x.2.1 = .slice Ax x.2.2.length cx ∧ Rd w' w'.heap.size Ax x.2.2) := Lib.hid (fun w' hg' => by
        obtain ⟨Ax, cx, e, -, -, hr, -⟩ := OB.form ((Md.below hg' h).out.rows x hx)
        exact ⟨Ax, cx, e, hr⟩)
      have hlook : Hid (∀ w', GrM w w' → (Instr.lookup 55 (.map (some b)) (.string (bs k)) false).run Try.prog w' = .ok x.2.1 w' ∧ w'.cell? ⟨g, 0, none⟩ = some (.map (some b))) := Lib.hid (fun w' hg' => by
        have hm' := (Md.below hg' h).out
        obtain ⟨D, hown, hrel⟩ := hm'.own
        obtain ⟨v, ps, hrun, hv⟩ := hown.lookup lawS Try.underlying55 (zeroV w') (zd := .held (.slice none 0 0)) (zp := []) rfl hkey
        rw [← hxk, hrel.at_ x hx] at hv
        rw [RV_inv hv] at hrun
        exact ⟨hrun, blk_cell (j := 0) (v := .map (some b)) hm'.blk rfl⟩)
      have hdat : Hid (dataOf L k = x.2.2) := Lib.hid (by rw [← hxk]; exact dataOf_at hd.out hx)
      have hdl : x.2.2.length ≤ 512 := (hok.out x hx).2
      replace hk := Lib.hid hk
      replace hx := Lib.hid hx
      replace hxk := Lib.hid hxk
      replace hacc := Lib.hid hacc
      clear hcell hrd hkey hgl
      go_upto_region 6 with (go_at_call 31; go_must (refine ht1.out.mono ?_); rintro e w2 ⟨v2, rfl, hv2, hb2⟩)
      have hgw2 : GrM w w2 := hgw.out.trans hb2
      have hB2 : B ≤ wr.heap.size := by rw [hB'.out]; exact hgw.out.size
      replace hv2 := hv2.more hB2
      obtain ⟨A2, c2, rfl, hc2, hm2, hr2, -⟩ := hv2.form
      have e2 : ((acc ++ enc k.length) ++ k).length ≤ m + 600 := by have := addT_len acc k (by omega); unfold addT at this; rw [hlen.out] at this; exact this
      obtain ⟨m2, hm2'⟩ : ∃ m2, ((acc ++ enc k.length) ++ k).length = m2 := ⟨_, rfl⟩
      rw [hm2'] at e2 hc2 ⊢
      obtain ⟨hrun, cg⟩ := hlook.out w2 hgw2
      obtain ⟨Ax, cx, exv, hrx2⟩ := hrx.out w2 hgw2
      rw [exv] at hrun
      have hconv := run_str_at (n := x.2.2.length) cx hrx2 rfl
      have ht2 := Lib.hid (text_any A2 m2 c2 ((acc ++ enc k.length) ++ k) hm2' x.2.2 (by omega) w2 hr2)
      replace hm2' := Lib.hid hm2'
      replace hgw2 := Lib.hid hgw2
      replace hb2 := Lib.hid hb2
      clear hrx2 hr2 hv2
      go_wp2_with (go_at_call 31; go_must (refine ht2.out.mono ?_); rintro e w3 ⟨v3, rfl, hv3, hb3⟩; obtain ⟨A6, c6, rfl, -, -⟩ := OB.form hv3; obtain ⟨m3, hm3⟩ : ∃ m3, ((((acc ++ enc k.length) ++ k) ++ enc x.2.2.length) ++ x.2.2).length = m3 := ⟨_, rfl⟩; rw [hm3] at hv3 ⊢; replace hm3 := Lib.hid hm3)
      have hfin : ((keysL L).take (j + 1)).foldl (stepT L) [] = (((acc ++ enc k.length) ++ k) ++ enc x.2.2.length) ++ x.2.2 := by
        rw [hnext.out]; unfold stepT addT; rw [hdat.out]
      have hB3 : B ≤ w2.heap.size := by rw [hB'.out]; exact hgw2.out.size
      have ho3 : Hid (OB w3 B (.slice A6 m3 c6) (((keysL L).take (j + 1)).foldl (stepT L) [])) := Lib.hid (by rw [hfin]; exact hv3.more hB3)
      have hl3 : Hid ((((keysL L).take (j + 1)).foldl (stepT L) []).length = m3) := Lib.hid (by rw [hfin]; exact hm3.out)
      have hg3 : Hid (GrM w1 w3) := Lib.hid (GrM.trans hgr.out (GrM.trans hb2.out hb3))
      go_roundw
      case rel => exact ⟨j + 1, m3, A6, c6, by omega, by go_num, by first | rfl | trivial, hl3, ho3, hg3⟩
      case measure => simp [intOf]; omega
    · obtain rfl : j = N := by omega
      have ij : decide ((j : Int) < (j : Int)) = false := decide_eq_false (by omega)
      clear hjn
      have hall : ((keysL L).take j).foldl (stepT L) [] = textL L := by rw [List.take_of_length_le (by rw [hKl.out]; exact Nat.le_refl _)]; rfl
      rw [hall] at ho hlen
      have hconv := run_str_at (n := m) c3 (ho.out.rd).1 hlen.out
      go_wp2_with fail
      go_ret
      exact ⟨rfl, hgw.out⟩
section
variable (w : World)
set_option maxRecDepth 10000 in
theorem put22_nil (v u : Value) : Calls Try.prog 11 #[.pointer none, v, u] w fun e w' => e = .returned (.int .i64 1) ∧ w' = w := by
  go_enter Try.func11, Try.ntmps11
  go_wp2_with fail
  go_ret
  exact ⟨rfl, rfl⟩
set_option maxRecDepth 10000 in
theorem del22_nil (v : Value) : Calls Try.prog 9 #[.pointer none, v] w fun e w' => e = .returned (.int .i64 1) ∧ w' = w := by
  go_enter Try.func9, Try.ntmps9
  go_wp2_with fail
  go_ret
  exact ⟨rfl, rfl⟩
set_option maxRecDepth 10000 in
theorem get22_nil (v : Value) : Calls Try.prog 18 #[.pointer none, v] w fun e w' => e = .returned (.tuple #[.slice none 0 0, .bool false]) ∧ w' = w := by
  go_enter Try.func18, Try.ntmps18
  go_wp2_with fail
  go_ret2
  exact ⟨rfl, rfl⟩
set_option maxRecDepth 10000 in
theorem keys22_nil : Calls Try.prog 14 #[.pointer none] w fun e w' => e = .returned (.slice none 0 0) ∧ w' = w := by
  go_enter Try.func14, Try.ntmps14
  go_wp2_with fail
  go_ret
  exact ⟨rfl, rfl⟩
set_option maxRecDepth 10000 in
theorem text22_nil : Calls Try.prog 16 #[.pointer none] w fun e w' => e = .returned (.string (bs [])) ∧ w' = w := by
  have hconv := run_str_at (w := w) (B := 0) (n := 0) (A := none) (l := []) 0 Rd.nil_ rfl
  have hk := Lib.hid (keys22_nil w)
  go_enter Try.func16, Try.ntmps16
  go_wp2_with (go_at_call 14; go_must (refine hk.out.mono ?_); rintro e w1 ⟨rfl, hee⟩; rw [hee]; clear hee)
  refine wp_loop_rounds 1 ?_
  rw [rounds_succ]
  go_wp2_with fail
  go_ret
  exact ⟨rfl, rfl⟩
end
end Go.Proofs.Ytipdjchgdhfciaa
