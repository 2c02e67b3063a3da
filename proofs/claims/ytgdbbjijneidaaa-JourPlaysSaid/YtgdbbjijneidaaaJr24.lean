/- Open in general: what lies behind the notes is removed. -/
import Derived.Test.YtgdbbjijneidaaaJr20
namespace Go.Proofs.Ytgdbbjijneidaaa
set_option linter.unusedVariables false
set_option linter.unusedSimpArgs false
open Go Go.RowKit
set_option maxHeartbeats 1000000 in
set_option maxRecDepth 10000 in
theorem swapU_any (lo hi g : Nat) (s : DS) (A : Option Addr) (n c : Nat) (b : List UInt8) (hn : b.length = n) (hnm : n ≤ 140737488355328) (w : World) (h : Dk w lo hi g s) (hr : Rd w w.heap.size A b) :
    Calls Try.prog 61 #[.pointer (some ⟨g, 0, none⟩), .slice A n c] w fun e w' => e = .returned (.int .i64 (s.swap b).1) ∧ Dk w' lo w'.heap.size g (s.swap b).2 ∧ Upd (· = g) w w' := by
  have hop := Lib.hid (operate_any lo hi g s w h)
  have hg := h.bounds.1
  have hhi := h.bounds.2.2
  have hc := Lib.hid s.op_c
  have hF := Lib.hid (fun hh : s.op.1 = false => DS.op_false hh)
  by_cases hov : 262144 < n
  · have hS : Hid (s.swap b = (16, s)) := Lib.hid (by unfold DS.swap; rw [hn, if_pos hov])
    have hov' : (262144 : Int) < n := by omega
    have hm := Lib.hid (h.more hhi (Nat.le_refl _))
    replace h := Lib.hid h
    replace hr := Lib.hid hr
    clear hn
    go_enter Try.func61, Try.ntmps61
    go_wp2
    rw [hS.out]
    go_ret
    exact ⟨rfl, hm.out, Upd.refl _ _⟩
  · have hS : Hid (s.swap b = if s.op.1 = true then (0, { s.op.2 with c := b, dur := b.length }) else (11, s)) := Lib.hid (by unfold DS.swap; rw [hn, if_neg hov])
    have hov' : (n : Int) ≤ 262144 := by omega
    obtain ⟨ob, hob⟩ : ∃ ob, Hid (s.op.1 = ob) := ⟨_, Lib.hid rfl⟩
    rw [hob.out] at hop hS
    have hnb := Lib.hid (Rd.ne_dk h hr)
    replace h := Lib.hid h
    replace hr := Lib.hid hr
    replace hn := Lib.hid hn
    clear hov
    go_enter Try.func61, Try.ntmps61
    go_wp2_with fail
    refine (hop.out).mono ?_
    rintro e w1 ⟨rfl, hd, hup⟩
    have hch : Upd (· = g) w w1 := hup
    replace hr := Lib.hid (hr.out.upd hnb.out hup)
    replace hch := Lib.hid hch
    clear hop
    cases ob with
    | false =>
      have hs2 : Hid (s.swap b = (11, s)) := Lib.hid (by rw [hS.out]; rfl)
      rw [hF.out hob.out] at hd
      replace hd := Lib.hid (hd.more hd.bounds.2.2 (Nat.le_refl _))
      clear hup
      go_wp2
      rw [hs2.out]
      go_ret
      exact ⟨rfl, hd.out, hch.out⟩
    | true =>
      have hs2 : Hid (s.swap b = (0, { s.op.2 with c := b, dur := b.length })) := Lib.hid (by rw [hS.out]; rfl)
      have hoku := Lib.hid hd.ok
      have hlw : lo ≤ w1.heap.size := by have := hd.bounds; omega
      replace hd := Lib.hid hd
      clear hS hup
      go_wp2_with fail
      refine (dcopied_any A n c b hn.out hnm w1 hr.out).mono ?_
      rintro e w2 ⟨v2, rfl, ho2, hb2⟩
      have hd2 := hd.out.below hb2
      obtain ⟨A2, c2, rfl, -, -, -, -⟩ := ho2.form
      have hz := Lib.hid ho2.lt
      obtain ⟨A1, c1, -, -, -, -, -, hh, h0, h1, -⟩ := hd2.open_
      have q0 := hd2.free 0
      have q1 := hd2.free 1
      have hset := Lib.hid (Dk.set01 hh hg (ho2.more hlw) (s' := { s.op.2 with c := b, dur := b.length }) rfl rfl ⟨Nat.le_refl _, by have := hn.out; show b.length ≤ _; omega, hoku.out.lo, hoku.out.hi⟩)
      replace hb2 := Lib.hid hb2
      replace ho2 := Lib.hid ho2
      replace hd2 := Lib.hid hd2
      replace hh := Lib.hid hh
      rw [hn.out] at hset
      go_wp2
      rw [hs2.out]
      go_ret
      refine ⟨rfl, ?_, ?_⟩
      · rw [World.size_setCell, World.size_setCell]
        rw [hn.out]
        exact hset.out
      · exact ((hch.out.trans (Upd.of_below hb2.out)).trans (Upd.of_grown (blk_grown _ _ _ _) rfl)).trans (Upd.of_grown (blk_grown _ _ _ _) rfl)
theorem Pls.ne_dk {w : World} {lo hi g : Nat} {s : DS} {l : List (Int × Int)} {A : Option Addr} {n c : Nat} (h : Dk w lo hi g s) (hp : Pls l (.slice A n c) w) (hl : 0 < l.length) : ∀ ad, A = some ad → ¬ (ad.block = g) := fun ad e hg => by
  obtain ⟨A', c', e', -, -, h3, -⟩ := hp
  injection e' with e' _ _
  obtain ⟨b, o, e2, -, hc⟩ := h3 hl
  rw [e] at e'
  rw [← e'] at e2
  injection e2 with e2
  subst e2
  have hg : b = g := hg
  subst hg
  obtain ⟨x, hx⟩ : ∃ x, l[0]? = some x := ⟨_, List.getElem?_eq_getElem hl⟩
  obtain ⟨c0, c1⟩ := hc 0 x hx
  obtain ⟨A0, k0, -, -, -, -, -, hh, -⟩ := h.open_
  rw [Nat.zero_mul, Nat.add_zero] at c0 c1
  unfold World.cell? at c0 c1
  simp only [hh] at c0 c1
  rcases o with _ | _ | _ | _ | o
  · simp at c0
  · simp at c1
  · simp at c0
  · simp at c1
  · simp at c0
theorem NeV.updD {w w' : World} {lo hi g : Nat} {s : DS} {x : Ne} (hd : Dk w lo hi g s) (h : NeV x w) (hu : Upd (· = g) w w') : NeV x w' := by
  obtain ⟨⟨A, c, e1, h1, h2, h3⟩, hp⟩ := h
  injection e1 with e1 _ e3
  have hne := fun hl ad e => Pls.ne_dk hd hp hl ad e
  obtain ⟨B, d, e2, g1, g2, g3, g4⟩ := hp
  injection e2 with e2 _ e4
  refine ⟨⟨A, c, by rw [e1, e3], h1, h2, Rd.upd h3 (Rd.ne_dk hd h3) hu⟩, ⟨B, d, by rw [e2, e4], g1, g2, fun hl => ?_, g4⟩⟩
  obtain ⟨b, o, e, hb, hc⟩ := g3 hl
  have hn : ¬ (b = g) := hne hl ⟨b, o, none⟩ (by rw [e2]; exact e)
  refine ⟨b, o, e, Nat.lt_of_lt_of_le hb hu.size, fun i y hy => ⟨?_, ?_⟩⟩
  · rw [hu.cell (p := ⟨b, o + i * 2, none⟩) hb hn]; exact (hc i y hy).1
  · rw [hu.cell (p := ⟨b, o + i * 2 + 1, none⟩) hb hn]; exact (hc i y hy).2
theorem ON.updD {w w' : World} {lo hi g base : Nat} {s : DS} {E : List Ne} {v : Value} (hd : Dk w lo hi g s) (h : ON E v base w) (hu : Upd (· = g) w w') : ON E v base w' := by
  obtain ⟨A0, k0, -, -, -, -, -, hh, -⟩ := hd.open_
  refine ⟨row_keep h.row (fun k hk => hu.2.2.2.2 k (World.ownsRow.lt h.row k hk).2 (fun e => row_ne h.row hh (by decide) (by rw [hk, e]))), fun x hx => (h.vs x hx).updD hd hu, h.ap⟩
theorem scan_le (b : List UInt8) : (scanN b).2 ≤ b.length := by
  induction hn : b.length using Nat.strongRecOn generalizing b with
  | _ n ih =>
    cases h : leadN b with
    | none => rw [scanN_none h]; exact Nat.zero_le _
    | some p =>
      obtain ⟨x, k⟩ := p
      have hk := leadN_le h
      rw [scanN_some h]
      have := ih (b.drop k).length (by rw [List.length_drop]; omega) (b.drop k) rfl
      rw [List.length_drop] at this
      show k + (scanN (b.drop k)).2 ≤ n
      omega
/-- the disk when Open has removed what lies behind the notes -/
def opS (s : DS) : Int × DS := if (scanN s.c).2 < s.c.length then s.swap (s.c.take (scanN s.c).2) else (0, s)
def OpenPost (lo g : Nat) (s : DS) (w : World) (e : Ending) (w' : World) : Prop :=
  Dk w' lo w'.heap.size g (opS s).2 ∧ Upd (· = g) w w' ∧
  (((opS s).1 = 0 ∧ ∃ J u E, e = .returned (.tuple #[.pointer (some ⟨J, 0, none⟩), u, .int .i64 0]) ∧ E.map (·.n) = (scanN s.c).1 ∧ ON E u w.heap.size w' ∧ Jn w' J g (scanN s.c).2 ∧ w.heap.size ≤ J) ∨
   ((opS s).1 ≠ 0 ∧ e = .returned (.tuple #[.pointer none, .slice none 0 0, .int .i64 (opS s).1])))
set_option maxHeartbeats 2000000 in
set_option maxRecDepth 20000 in
theorem open_any (lo hi g : Nat) (s : DS) (w : World) (h : Dk w lo hi g s) :
    Calls Try.prog 30 #[.pointer (some ⟨g, 0, none⟩)] w (OpenPost lo g s w) := by
  by_cases hw : (scanN s.c).2 = s.c.length
  · refine (open_whole lo hi g s w h hw).mono ?_
    rintro e w' ⟨J, u, E, rfl, hE, ho, hJ, hN, hg⟩
    have ho2 : opS s = (0, s) := by unfold opS; rw [if_neg (by omega)]
    unfold OpenPost
    rw [ho2]
    exact ⟨(h.below hg).more (by have := h.bounds; have := Below.size hg; omega) (Nat.le_refl _), Upd.of_below hg, .inl ⟨rfl, J, u, E, rfl, hE, ho, by rw [hw]; exact hJ, hN⟩⟩
  · have hle := scan_le s.c
    have hlt : (scanN s.c).2 < s.c.length := by omega
    have ho2 : Hid (opS s = s.swap (s.c.take (scanN s.c).2)) := Lib.hid (by unfold opS; rw [if_pos hlt])
    have hby := Lib.hid (bytes_any lo hi g s w h)
    have hlen := h.ok.len
    obtain ⟨N, hN⟩ : ∃ N, w.heap.size = N := ⟨_, rfl⟩
    obtain ⟨nb, hnb⟩ : ∃ nb, s.c.length = nb := ⟨_, rfl⟩
    obtain ⟨m, hm⟩ : ∃ m, (scanN s.c).2 = m := ⟨_, rfl⟩
    rw [hnb] at hlt hlen
    rw [hm] at hlt ho2
    have h1 : (m : Int) < (nb : Int) := by omega
    replace hnb := Lib.hid hnb
    replace hm := Lib.hid hm
    replace hN := Lib.hid hN
    replace h := Lib.hid h
    clear hw hle
    go_enter Try.func30, Try.ntmps30
    go_wp2_with fail
    refine hby.out.mono ?_
    clear hby
    rintro e w1 ⟨v1, rfl, hb1, hg1⟩
    have hd1 := Lib.hid (h.out.below hg1)
    replace hg1 : Hid (Gr w w1) := Lib.hid hg1
    have hsc := scan_any s.c v1 _ (by rw [hnb.out]; omega) w1 hb1
    rw [hm.out] at hsc
    replace hsc := Lib.hid hsc
    obtain ⟨A1, c1, rfl, hc1, -⟩ := hb1.form
    rw [hnb.out] at hsc hb1 hc1 ⊢
    replace hb1 := Lib.hid hb1
    go_wp2_with fail
    refine hsc.out.mono ?_
    clear hsc
    rintro e w2 ⟨u, E, rfl, hE, ho, hg2⟩
    have hd2 := hd1.out.below hg2
    have hb2 := OB.below hb1.out hg2
    have hct := OB.cut hb2 (m := m) (by omega)
    obtain ⟨A2, c2, e2, hc21, hc22, hR2, -⟩ := hct.form
    have htl : (s.c.take m).length = m := by rw [List.length_take, hnb.out]; omega
    injection e2 with e2 e2b e3
    clear e2b
    subst e2
    have hsw := Lib.hid (swapU_any lo _ g s A1 m c1 (s.c.take m) htl (by omega) w2 hd2 hR2)
    obtain ⟨Au, mu, cu, rfl⟩ : ∃ A m c, u = .slice A m c := by obtain ⟨A, c, e, -⟩ := ho.form; exact ⟨A, _, c, e⟩
    replace ho := Lib.hid ho
    replace hE := Lib.hid hE
    replace hd2 := Lib.hid hd2
    replace hg2 := Lib.hid hg2
    have h2 : m ≤ c1 := by omega
    have h3 : (m : Int) ≤ (c1 : Int) := by omega
    clear hb1 hb2 hct e3 hR2 htl hc21 hc22
    go_wp2_with fail
    refine hsw.out.mono ?_
    clear hsw
    obtain ⟨R, hR⟩ : ∃ R, s.swap (s.c.take m) = R := ⟨_, rfl⟩
    rw [hR] at ho2 ⊢
    rintro e w3 ⟨rfl, hd3, hu3⟩
    have ho3 := ON.updD hd2.out ho.out hu3
    have hN1 : N ≤ w1.heap.size := by have := Below.size hg1.out; rw [hN.out] at this; exact this
    have hu : Hid (Upd (· = g) w w3) := Lib.hid ((Upd.of_below (hg1.out.trans hg2.out)).trans hu3)
    have hs3 : N ≤ w3.heap.size := by have := hu.out.size; rw [hN.out] at this; exact this
    have hb3 := hd3.bounds
    replace hR := Lib.hid hR
    by_cases hz : R.1 = 0
    · have hz2 : (R.1 == 0) = true := beq_iff_eq.mpr hz
      have hga := Gr.alloc w3 (.cells #[.pointer (some ⟨g, 0, none⟩), .int .i64 m] 99)
      have hJ : Hid (Jn (w3.alloc (.cells #[.pointer (some ⟨g, 0, none⟩), .int .i64 m] 99)) w3.heap.size g m) := Lib.hid (heap_alloc_new w3 _)
      have ho4 : Hid (ON E (.slice Au mu cu) N (w3.alloc (.cells #[.pointer (some ⟨g, 0, none⟩), .int .i64 m] 99))) := by
        have h := (ON.gr hga (Lib.hid ho3)).out
        exact Lib.hid ⟨row_more h.row hN1, h.vs, h.ap⟩
      have hd4 : Hid (Dk (w3.alloc (.cells #[.pointer (some ⟨g, 0, none⟩), .int .i64 m] 99)) lo (w3.alloc (.cells #[.pointer (some ⟨g, 0, none⟩), .int .i64 m] 99)).heap.size g R.2) := Lib.hid ((hd3.below hga).more hga.size (Nat.le_refl _))
      have hu4 := Lib.hid (hu.out.trans (Upd.of_below hga))
      replace hd3 := Lib.hid hd3
      replace hu3 := Lib.hid hu3
      replace ho3 := Lib.hid ho3
      replace hga := Lib.hid hga
      clear hb3
      go_wp2_with fail
      refine bodyPost_ret (v := .tuple #[.pointer (some ⟨w3.heap.size, 0, none⟩), .slice Au mu cu, .int .i64 0]) (by simp [results, Try.results30, go_sem]) rfl ?_
      unfold OpenPost
      rw [ho2.out]
      exact ⟨hd4.out, hu4.out, .inl ⟨hz, _, _, E, rfl, hE.out, by rw [hN.out]; exact ho4.out, by rw [hm.out]; exact hJ.out, by rw [hN.out]; exact hs3⟩⟩
    · have hz2 : (R.1 == 0) = false := beq_eq_false_iff_ne.mpr hz
      replace hd3 := Lib.hid hd3
      replace hu3 := Lib.hid hu3
      replace ho3 := Lib.hid ho3
      clear hb3
      go_wp2_with fail
      refine bodyPost_ret (v := .tuple #[.pointer none, .slice none 0 0, .int .i64 R.1]) (by simp [results, Try.results30, go_sem]) rfl ?_
      unfold OpenPost
      rw [ho2.out]
      exact ⟨hd3.out, hu.out, .inr ⟨hz, rfl⟩⟩
end Go.Proofs.Ytgdbbjijneidaaa
