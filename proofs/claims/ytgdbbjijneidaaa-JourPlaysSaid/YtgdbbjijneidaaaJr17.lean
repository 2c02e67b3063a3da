/- Frames of notes, one behind the other. -/
import Derived.Test.YtgdbbjijneidaaaJr16
import Derived.Test.YtgdbbjijneidaaaJr15
namespace Go.Proofs.Ytgdbbjijneidaaa
set_option linter.unusedVariables false
set_option linter.unusedSimpArgs false
open Go Go.RowKit
def icells (l : List Int) : List Value := l.map (Value.int .i64)
theorem icells_len (l : List Int) : (icells l).length = l.length := List.length_map _
theorem icells_app (l m : List Int) : icells (l ++ m) = icells l ++ icells m := List.map_append
theorem icells_at {l : List Int} {i : Nat} {x : Int} (h : l[i]? = some x) : (icells l)[i]? = some (.int .i64 x) := by unfold icells; rw [List.getElem?_map, h]; rfl
theorem icells_one (l : List Int) : ∀ v ∈ icells l, v.oneCell' = true := fun v hv => by
  unfold icells at hv
  obtain ⟨j, -, rfl⟩ := List.mem_map.mp hv
  rfl
def Ints (l : List Int) (v : Value) (w : World) : Prop := ∃ A c, v = .slice A l.length c ∧ l.length ≤ c ∧ c ≤ maxLen ∧
  (0 < l.length → ∃ b o, A = some ⟨b, o, none⟩ ∧ b < w.heap.size ∧ ∀ i x, l[i]? = some x → w.cell? ⟨b, o + i, none⟩ = some (.int .i64 x)) ∧ ∀ x ∈ l, I64 x
def OI (l : List Int) (v : Value) (base : Nat) (w : World) : Prop := w.ownsRow base 3 1 v l.length (icells l) ∧ ∀ x ∈ l, I64 x
theorem info_int : (Try.prog.info? 3).map (fun i => (i.zero, i.size, i.bytes)) = some (some (.int .i64 0), 1, 8) := by kernel_rfl
section
variable {w w' : World} {base : Nat} {v : Value} {l : List Int}
theorem OI.empty (w : World) (base : Nat) (hb : base ≤ w.heap.size) : OI [] (.slice (some ⟨w.heap.size, 0, none⟩) 0 0) base (w.alloc (.cells #[] 3)) := ⟨World.ownsRow_made w #[] 0 hb (by simp [maxLen]) rfl, fun x h => by cases h⟩
theorem OI.gr (hr : Gr w w') (h : Hid (OI l v base w)) : Hid (OI l v base w') := Lib.hid ⟨row_below h.out.1 hr, h.out.2⟩
theorem OI.up (h : OI l v base w) : ∀ k, v.ownBlock = some k → base ≤ k := fun k hk => (World.ownsRow.lt h.1 k hk).1
theorem OI.lo {base' : Nat} (h : OI l v base w) (hb : base' ≤ base) : OI l v base' w := by
  refine ⟨⟨h.1.1, ?_⟩, h.2⟩
  rcases h.1.2 with hn | ⟨g, cap, cur, e, hg, r⟩
  · exact .inl hn
  · exact .inr ⟨g, cap, cur, e, by omega, r⟩
theorem OI.form (h : OI l v base w) : ∃ A c, v = .slice A l.length c ∧ l.length ≤ c ∧ c ≤ maxLen := row_form h.1
theorem OI.ints (h : OI l v base w) : Ints l v w := by
  obtain ⟨A, c, rfl, h1, h2⟩ := h.form
  refine ⟨A, c, rfl, h1, h2, fun hp => ?_, h.2⟩
  have hr := Reads.of_own h.1
  obtain ⟨g, cap, hv, _, hlt⟩ := World.ownsRow.form h.1 hp
  have hA : A = some ⟨g, 0, none⟩ := by injection hv
  subst hA
  obtain ⟨ad, e, hb, hc⟩ := hr.2 hp
  injection e with e
  subst e
  refine ⟨g, 0, rfl, hb, fun i x hx => ?_⟩
  have := hc i _ (icells_at hx)
  rwa [addr0, ← Nat.zero_add i] at this
theorem Ints.reads (h : Ints l v w) : ∃ A c, v = .slice A l.length c ∧ Reads w w.heap.size 1 A l.length (icells l) := by
  obtain ⟨A, c, e, h1, h2, h3, h4⟩ := h
  refine ⟨A, c, e, by rw [icells_len]; omega, fun hp => ?_⟩
  obtain ⟨b, o, e, hb, hc⟩ := h3 hp
  refine ⟨_, e, hb, fun j u hu => ?_⟩
  unfold icells at hu
  rw [List.getElem?_map, Option.map_eq_some_iff] at hu
  obtain ⟨x, hx, rfl⟩ := hu
  have := hc j x hx
  rw [← this]
  congr 1
  unfold Addr.add; split <;> simp_all
end
theorem Ints.one (w : World) (x : Int) (hx : I64 x) (t : TypeId) : Ints [x] (.slice (some ⟨w.heap.size, 0, none⟩) 1 1) (w.alloc (.cells #[.int .i64 x] t)) :=
  ⟨_, _, rfl, Nat.le_refl _, by decide, fun _ => ⟨_, _, rfl, by simp, fun i y hy => by
    match i, hy with
    | 0, hy => simp at hy; subst hy; exact cell_new w _ t rfl⟩, fun y hy => by simp at hy; subst hy; exact hx⟩
theorem wpl_appI {w : World} {ops : Array Oper} {rest : List Oper} {o : Oper} {a : Act} {Q : Exit → Act → World → Prop} (hgd : o.guard = none) (s x : Operand)
    (ho : o.op = .call { callee := .builtin .append, args := #[s, x], argTypes := #[41, 41] })
    (base : Nat) (v u : Value) (l news : List Int) (hs : a.eval s = v) (hown : OI l v base w) (hx : a.eval x = u) (hr : Ints news u w)
    (hlen : l.length + news.length ≤ 100000000) (hbase : base ≤ w.heap.size)
    (h : ∀ v' w', OI (l ++ news) v' base w' → w.grownBy w' v.ownBlock → Below base w w' → wpList Try.prog ops Q rest (a.put o.dst v') w') : wpList Try.prog ops Q (o :: rest) a w := by
  obtain ⟨i0, hi, hz0, hz1, hz2⟩ := info_parts info_int
  obtain ⟨A, c, rfl, hrd⟩ := hr.reads
  refine wpList_plain hgd fun _ hK => wp_append_any w s x 41 ho base 3 i0 _ 1 8 Try.underlying41 hi hz0 hz1 hz2 rfl (by omega) v l.length (icells l) hs hown.1 w.heap.size A news.length c (icells news) hx hrd (icells_one news)
    (by simp only [maxLen]; omega) (by omega) hbase fun v' w' h2 h3 h4 => hK _ _ (h v' w' ⟨?_, ?_⟩ h3 ((Below.refl base w).grown h3 hbase hown.up))
  · rw [List.length_append, icells_app]; exact h2
  · intro y hy
    obtain ⟨_, _, _, _, _, _, h9⟩ := hr
    rcases List.mem_append.mp hy with h | h
    · exact hown.2 y h
    · exact h9 y h

def framesB (L : List Nt) : List UInt8 := L.flatMap (fun n => frameB (encN n))
theorem framesB_app (L M : List Nt) : framesB (L ++ M) = framesB L ++ framesB M := by unfold framesB; rw [List.flatMap_append]
theorem framesB_one (n : Nt) : framesB [n] = frameB (encN n) := by unfold framesB; simp
/-- where each frame begins -/
def atL (L : List Nt) : List Int := (List.range L.length).map (fun i => ((framesB (L.take i)).length : Int))
def atK (L : List Nt) (k : Nat) : List Int := (List.range k).map (fun i => ((framesB (L.take i)).length : Int))
theorem atK_succ (L : List Nt) (k : Nat) : atK L (k + 1) = atK L k ++ [((framesB (L.take k)).length : Int)] := by unfold atK; rw [List.range_succ, List.map_append]; rfl
theorem framesB_len {L : List Nt} (h : ∀ n ∈ L, goodN n = true) : (framesB L).length ≤ 2008 * L.length := by
  induction L with
  | nil => simp [framesB]
  | cons n L ih =>
    have h1 := encN_len ((good_iff n).1 (h n (by simp)))
    have h2 := ih (fun m hm => h m (by simp [hm]))
    have h3 := frameB_len (encN n)
    have e : framesB (n :: L) = frameB (encN n) ++ framesB L := by unfold framesB; rw [List.flatMap_cons]
    rw [e, List.length_append, List.length_cons]
    omega
set_option maxHeartbeats 8000000 in
set_option maxRecDepth 20000 in
theorem frames_any (L : List Nt) (v : Value) (hgood : ∀ n ∈ L, goodN n = true) (hL : L.length ≤ 100) (w : World) (h : NsV L v w) :
    Calls Try.prog 21 #[v] w fun e w' => ∃ u a, e = .returned (.tuple #[u, a]) ∧ OB w' w.heap.size u (framesB L) ∧ OI (atL L) a w.heap.size w' ∧ Gr w w' := by
  obtain ⟨A, c, rfl, hc1, hc2⟩ := h.len
  obtain ⟨n, hn⟩ : ∃ n, L.length = n := ⟨_, rfl⟩
  rw [hn] at h hL ⊢
  obtain ⟨N, hN⟩ : ∃ N, w.heap.size = N := ⟨_, rfl⟩
  rw [hN]
  have hg1 := Gr.alloc w (.cells #[] 5)
  have hob := OB.empty w N (by omega)
  have hs1 : (w.alloc (.cells #[] 5)).heap.size = N + 1 := by rw [← hN]; simp
  have hg2 := Gr.alloc (w.alloc (.cells #[] 5)) (.cells #[] 3)
  have hoi := OI.empty (w.alloc (.cells #[] 5)) N (by omega)
  have hob2 := OB.gr hg2 (Lib.hid hob)
  have hg := Lib.hid (hg1.trans hg2)
  rw [hs1] at hoi
  rw [hN] at hob2
  obtain ⟨w1, hw1⟩ : ∃ w1, (w.alloc (.cells #[] 5)).alloc (.cells #[] 3) = w1 := ⟨_, rfl⟩
  rw [hw1] at hg hoi hob2
  have hlb : Hid (∀ k, k ≤ n → (framesB (L.take k)).length ≤ 300000) := Lib.hid (fun k hk => by
    have h1 := framesB_len (L := L.take k) (fun m hm => hgood m (List.mem_of_mem_take hm))
    rw [List.length_take, hn] at h1
    have : min k n ≤ 100 := by omega
    omega)
  replace h := Lib.hid h
  replace hn := Lib.hid hn
  replace hN := Lib.hid hN
  replace hw1 := Lib.hid hw1
  replace hoi := Lib.hid hoi
  replace hgood := Lib.hid hgood
  clear hc1 hc2 hg1 hg2 hob
  go_enter Try.func21, Try.ntmps21
  go_wp2_with fail
  rw [hN.out, hw1.out]
  clear hw1
  go_loopw [4, 5, 6] (fun ov av i wr => ∃ (j : Nat) (A1 : Option Addr) (m1 c1 : Nat) (A2 : Option Addr) (m2 c2 : Nat), i = .int .i64 j ∧ ov = .slice A1 m1 c1 ∧ av = .slice A2 m2 c2 ∧ j ≤ n ∧ Hid (OB wr N (.slice A1 m1 c1) (framesB (L.take j))) ∧ Hid (OI (atK L j) (.slice A2 m2 c2) N wr) ∧ Hid (Gr w wr)) (fun _ _ i _ => n - (intOf i).toNat)
  case atStart => exact ⟨0, _, _, _, _, _, _, rfl, rfl, rfl, Nat.zero_le _, hob2, hoi, hg⟩
  case round =>
    clear hob2 hoi hg hs1
    obtain ⟨j, A1, m1, c1, A2, m2, c2, rfl, rfl, rfl, hj, ho, hi, hg⟩ := hrel
    by_cases hlt : j < n
    · obtain ⟨b, o, xn, xA, xc, xA2, xc2, rfl, hq, hxv, hbl, hcx⟩ := h.out.get (i := j) (by rw [hn.out]; exact hlt)
      have hxg : goodN xn = true := hgood.out xn (List.mem_of_getElem? hq)
      have hfr := Lib.hid (rframe_ok xn xA xc xA2 xc2 wr (hxv.gr hg.out).ntv hxg)
      unfold Nt.agg at hfr
      have hstep : Hid (framesB (L.take (j + 1)) = framesB (L.take j) ++ frameB (encN xn)) := Lib.hid (by
        rw [List.take_add_one, hq, framesB_app]
        simp only [Option.toList_some]
        rw [framesB_one])
      have hX2 := encN_len ((good_iff xn).1 hxg)
      have hfl := frameB_len (encN xn)
      obtain ⟨Y, hY⟩ : ∃ Y, frameB (encN xn) = Y := ⟨_, rfl⟩
      rw [hY] at hfr hstep hfl
      have hYl : Y.length ≤ 2008 := by omega
      have hNs : N ≤ wr.heap.size := by have := hg.out.size; rw [hN.out] at this; exact this
      have hob' := hlb.out j (by omega)
      obtain ⟨A1', c1', e1, -, -, -, -⟩ := ho.out.form
      injection e1 with e0 e1 e2'
      clear e0 e2'
      obtain ⟨x0, x1, x2, x3, x4, x5, x6, x7⟩ := hcx wr hg.out
      replace hxg := Lib.hid hxg
      replace hY := Lib.hid hY
      clear hcx hbl hX2 hfl hxv hq
      go_wp2_with fail
      refine hfr.out.mono ?_
      clear hfr x0 x1 x2 x3 x4 x5 x6 x7
      rintro e w2 ⟨u2, rfl, ho2, hg2⟩
      replace hg := Lib.hid (hg.out.trans hg2)
      have hok : ∀ k, (Value.slice A1 m1 c1).ownBlock = some k → k < wr.heap.size := fun k hk => (ho.out.lt k hk).2
      replace ho := OB.gr hg2 ho
      replace hi := OI.gr hg2 hi
      have hs2 := hg2.size
      obtain ⟨A3, c3, rfl, -⟩ := ho2.form
      obtain ⟨ny, hny⟩ : ∃ ny, Y.length = ny := ⟨_, rfl⟩
      rw [hny] at ho2 hYl ⊢
      have hga := Gr.alloc w2 (.cells #[.int .i64 m1] 3)
      have hlit := Ints.one w2 (m1 : Int) ⟨by omega, by omega⟩ 3
      replace hg := Lib.hid (hg.out.trans hga)
      replace ho := OB.gr hga ho
      replace hi := OI.gr hga hi
      have ho2' := OB.gr hga (Lib.hid ho2)
      have hs3 := hga.size
      obtain ⟨w3, hw3⟩ : ∃ w3, w2.alloc (.cells #[.int .i64 m1] 3) = w3 := ⟨_, rfl⟩
      rw [hw3] at hlit hg ho hi ho2' hs3
      have hNs3 : N ≤ w3.heap.size := by omega
      have hatl : (atK L j).length = j := by unfold atK; simp
      replace hlit := Lib.hid hlit
      replace hw3 := Lib.hid hw3
      replace hok := Lib.hid hok
      replace hny := Lib.hid hny
      replace e1 := Lib.hid e1
      clear hg2 hga ho2
      rw [← hny.out] at hYl
      go_upto_region 8 with (at_builtin; (try rw [hw3.out]); refine wpl_appI rfl (.tmp 25) (.tmp 28) rfl N (.slice A2 m2 c2) (.slice (some ⟨w2.heap.size, 0, none⟩) 1 1) (atK L j) [(m1 : Int)] rfl hi.out rfl hlit.out (by rw [hatl]; simp; omega) hNs3 ?_; intro v5 w5 hi5 hg5 hl5; replace ho : Hid (OB w5 N (.slice A1 m1 c1) (framesB (L.take j))) := Lib.hid (row_keep ho.out (fun k hk => hg5.block k (ho.out.lt k hk).2 (fun e => (row_ne2 ho.out hi.out.1 (by decide)) k e.symm hk))); replace ho2' : Hid (OB w5 wr.heap.size (.slice A3 ny c3) Y) := Lib.hid (row_keep ho2'.out (fun k hk => hg5.block k (ho2'.out.lt k hk).2 (fun e => (row_ne2 ho2'.out hi.out.1 (by decide)) k e.symm hk))); replace hg : Hid (Gr w w5) := Lib.hid (by have h := hg.out; unfold Gr at *; rw [hN.out] at *; exact h.trans hl5); have hs5 := hl5.size; have hi5' : Hid (OI (atK L (j + 1)) v5 N w5) := Lib.hid (by rw [atK_succ]; have h := hi5; rw [e1.out] at h; exact h); obtain ⟨A5, m5, c5, rfl⟩ : ∃ A m c, v5 = .slice A m c := (by obtain ⟨A, c, e, -, -⟩ := hi5.form; exact ⟨A, _, c, e⟩); clear hg5 hl5 hi5)
      go_wp2_with (at_builtin; go_must (refine wpl_append rfl (.tmp 30) (.tmp 31) rfl N (.slice A1 m1 c1) (framesB (L.take j)) rfl ho.out _ A3 c3 Y (by rw [hny.out]; rfl) ho2'.out.rd.1 (by omega) (by omega) ?_); intro v6 w6 ho6 hg6 _; have hl6 : Below N w5 w6 := (Below.refl _ _).grown hg6 (by omega) (fun k hk => (ho.out.lt k hk).1); replace hi5' : Hid (OI (atK L (j + 1)) (.slice A5 m5 c5) N w6) := Lib.hid ⟨row_keep hi5'.out.1 (fun k hk => hg6.block k (World.ownsRow.lt hi5'.out.1 k hk).2 (fun e => (row_ne2 hi5'.out.1 ho.out (by decide)) k e.symm hk)), hi5'.out.2⟩; replace hg : Hid (Gr w w6) := Lib.hid (by have h := hg.out; unfold Gr at *; rw [hN.out] at *; exact h.trans hl6); rw [← hstep.out] at ho6; replace ho6 := Lib.hid ho6; obtain ⟨A6, m6, c6, rfl⟩ := ho6.out.shape; clear hg6 hl6)
      go_roundw
      case rel => exact ⟨j + 1, A6, m6, c6, A5, m5, c5, by go_num, rfl, rfl, by omega, ho6, hi5', hg⟩
      case measure => simp [intOf]; omega
    · obtain rfl : j = n := by omega
      have hall : L.take j = L := by rw [← hn.out, List.take_length]
      have hat : atK L j = atL L := by unfold atL; rw [hn.out]; rfl
      rw [hall] at ho
      rw [hat] at hi
      go_wp2_with fail
      go_ret2
      exact ⟨_, _, rfl, ho.out, hi.out, hg.out⟩
end Go.Proofs.Ytgdbbjijneidaaa
