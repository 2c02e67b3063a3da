/- scan: a map's keys, as read; ranging over it. -/
import Derived.Test.YtiliggleplpjbaaSc10
import Derived.Maps.RangeWalk
import Derived.Test.YtiliggleplpjbaaSc14
import Derived.RangeFuncNested
import Derived.RangeFuncMany
import Derived.RangeFuncBound
import Derived.RangeFuncCalls
import Derived.RangeFuncWrites
import Derived.RangeFuncLeaves
import Derived.Shelf.Abstract
import Derived.Shelf.AbstractIn
import Derived.Shelf.RegionOpen
import Derived.Sort.MapsRangeIn
import Derived.Sort.KeysCollected
import Derived.WalkKit
import Derived.OwnWalkIn
import Derived.TacticsInMore
import Derived.RegionIn
import Derived.LoopNIn
import Derived.LoopIn
import Derived.Shelf.SlIter.Stops
import Derived.Test.YtiliggleplpjbaaScLay
import Derived.Test.YtiliggleplpjbaaSc6
namespace Go.Proofs.Ytiliggleplpjbaa
set_option linter.unusedVariables false
set_option linter.unusedSimpArgs false
open Go Go.RowKit Go.Maps Go.Proofs
open Go.WideElems (rg)
theorem perm_of_sub {α : Type} [BEq α] [LawfulBEq α] {l m : List α} (hn : l.Nodup) (hs : ∀ x ∈ l, x ∈ m) (hl : m.length ≤ l.length) : l.Perm m := by
  induction l generalizing m with
  | nil =>
    have : m = [] := List.eq_nil_of_length_eq_zero (by simpa using hl)
    rw [this]
  | cons x l ih =>
    obtain ⟨h1, h2⟩ := List.nodup_cons.mp hn
    have hx := hs x (by simp)
    refine List.Perm.trans (List.Perm.cons x (ih h2 (fun y hy => ?_) ?_)) (List.perm_cons_erase hx).symm
    · have hyx : y ≠ x := fun e => h1 (e ▸ hy)
      exact (List.mem_erase_of_ne hyx).mpr (hs y (by simp [hy]))
    · rw [List.length_erase_of_mem hx]; simp at hl; omega
theorem MpR.lits {K : Type} [BEq K] [LawfulBEq K] {c : KC K} {es : List (Lit × DataW Value)} {L : List (K × Value)} (h : MpR c (.map es) L) : (L.map (fun e => c.lit e.1)).Perm (es.map Prod.fst) := by
  haveI : DecidableEq Lit := fun a b => Classical.propDecidable _
  refine perm_of_sub ?_ (fun k hk => ?_) ?_
  · exact List.pairwise_map.mpr (h.dist.imp (fun hne e => hne (c.inj e)))
  · obtain ⟨e, he, rfl⟩ := List.mem_map.mp hk
    have h1 := h.has e.1
    rw [(hasP_iff L e.1).mpr ⟨e, he, rfl⟩, has_eq, List.any_eq_true] at h1
    obtain ⟨p, hp, hs⟩ := h1
    exact List.mem_map.mpr ⟨p, hp, (WideAt.sameKey_iff (c.ok e.1)).mp hs⟩
  · have := h.size
    rw [List.length_map, List.length_map]
    exact Nat.le_of_eq this
set_option maxRecDepth 10000 in
theorem ranges_key {K : Type} [BEq K] [LawfulBEq K] {c : KC K} {kt : TypeId} {w : World} {b r n cnt : Nat} {D : DataW Value} {left : Lit → Bool} {L : List (K × Value)} (h : w.ranges Try.prog kt RV b r n D left cnt) (hr : MpR c D L) {kl : Lit} (hl : left kl = true) : ∃ e ∈ L, c.lit e.1 = kl := by
  obtain ⟨es, clock, since, seen, c0, hb, F, hn, hD, hi, h1, h2, h3, h4, h5, h6⟩ := h
  obtain ⟨x, hx, he⟩ := h4 kl hl
  subst hD
  have hp := hr.lits
  have hm : kl ∈ (((es.toList.map (rg Try.prog kt RV)).foldr DataW.insert []).map Prod.fst) := List.mem_map.mpr ⟨rg Try.prog kt RV x, mem_sorted.mpr (List.mem_map.mpr ⟨x, hx, rfl⟩), he⟩
  obtain ⟨e, he2, hek⟩ := List.mem_map.mp (hp.mem_iff.mpr hm)
  exact ⟨e, he2, hek⟩
end Go.Proofs.Ytiliggleplpjbaa
/- scan: the best of each key, as the program's map holds them: plain steps; what a key of the map of copies is like. -/
namespace Go.Proofs.Ytiliggleplpjbaa
set_option linter.unusedVariables false
set_option linter.unusedSimpArgs false
open Go Go.RowKit Go.Maps Go.Proofs
/-- an entry as the map of the best holds it: its places lie in block g -/
structure Eb where
  e : EnP
  g : Nat
def ebV (x : Eb) : Value := .agg #[.string (bs x.e.key), .int .i64 x.e.gen, .int .i64 x.e.size, .string (bs x.e.sum), .slice (some ⟨x.g, 0, none⟩) x.e.places.length x.e.places.length]
theorem best_put {C : List Fd} {S : List Vr} {Bs : List (By × Eb)} (hk : ∀ e ∈ Bs, e.1 = e.2.e.key) (hb : BestS C S (Bs.map (fun e => e.2.e))) {v : Vr} (hu : usable C v = true)
    (h : hasP Bs v.key = false ∨ ∃ x, (v.key, x) ∈ Bs ∧ aheadB (entV C v) x.e = true) (x' : Eb) (he : x'.e = entV C v) : BestS C (S ++ [v]) ((delP Bs v.key ++ [(v.key, x')]).map (fun e => e.2.e)) := by
  rcases h with h | ⟨x, hx, ha⟩
  · rw [delP_no h, List.map_append, List.map_singleton, he]
    refine hb.new hu (fun e hm hh => ?_)
    obtain ⟨y, hy, rfl⟩ := List.mem_map.mp hm
    have := (hasP_iff Bs v.key).mpr ⟨y, hy, (hk y hy).trans hh⟩
    rw [h] at this; cases this
  · obtain ⟨A, B, rfl⟩ := List.append_of_mem hx
    have hxk : x.e.key = v.key := (hk (v.key, x) (by simp)).symm
    have hd := hb.dist
    rw [List.map_append, List.map_cons, List.pairwise_append, List.pairwise_cons] at hd
    obtain ⟨-, ⟨d2, -⟩, d4⟩ := hd
    have hdel : delP (A ++ (v.key, x) :: B) v.key = A ++ B := by
      unfold delP
      rw [List.filter_append, List.filter_cons_of_neg (by simp)]
      congr 1
      · rw [List.filter_eq_self]
        intro y hy
        have h1 := d4 y.2.e (List.mem_map.mpr ⟨y, hy, rfl⟩) x.e (by simp)
        have h2 := hk y (by simp [hy])
        simp only [bne_iff_ne, ne_eq]
        intro e1
        exact h1 (h2.symm.trans (e1.trans hxk.symm))
      · rw [List.filter_eq_self]
        intro y hy
        have h1 := d2 y.2.e (List.mem_map.mpr ⟨y, hy, rfl⟩)
        have h2 := hk y (by simp [hy])
        simp only [bne_iff_ne, ne_eq]
        intro e1
        exact h1 (hxk.trans (e1.symm.trans h2))
    rw [List.map_append, List.map_cons] at hb
    have ht := BestS.turn (out := []) hb hu hxk ha
    rw [hdel, List.map_append, List.map_append, List.map_singleton, he]
    exact ht.perm (by
      rw [List.append_assoc]
      exact List.Perm.append_left _ (List.perm_append_singleton _ _).symm)
theorem best_stay {C : List Fd} {S : List Vr} {Bs : List (By × Eb)} (hk : ∀ e ∈ Bs, e.1 = e.2.e.key) (hb : BestS C S (Bs.map (fun e => e.2.e))) {v : Vr} (hu : usable C v = true) {x : Eb} (hx : (v.key, x) ∈ Bs) (ha : aheadB (entV C v) x.e = false) : BestS C (S ++ [v]) (Bs.map (fun e => e.2.e)) :=
  hb.stay hu (List.mem_map.mpr ⟨_, hx, rfl⟩) (hk _ hx).symm ha
/-- what the map of the copies hands out next: a version, and its places -/
theorem copies_next {C : List Fd} {S : List Vr} {Cs : List (Vk × (Nat × Nat))} {w W : World} {n₀ b r n t cnt : Nat} {D : DataW Value} {left : Lit → Bool} (h : CpM C S Cs W n₀ b t) (hr : MpR KV D (mapV slV Cs)) (hrg : w.ranges Try.prog 58 RV b r n D left cnt) {x c : Value} {kl : Lit} {y : DataW Value × List MemPlace}
    (hx : keyOf Try.prog 58 x = some kl) (hl : left kl = true) (hy : RV c = some y) (hat : ∀ zd, D.atKey kl zd = y.1) : ∃ (v : Vk) (g : Nat), (v, (g, nSlots v.1)) ∈ Cs ∧ x = v.1.agg ∧ c = .slice (some ⟨g, 0, none⟩) (nSlots v.1) (nSlots v.1) ∧ kl = KV.lit v := by
  obtain ⟨e, he, hk⟩ := ranges_key hrg hr hl
  unfold mapV at he
  obtain ⟨⟨v, g, m⟩, hm, rfl⟩ := List.mem_map.mp he
  have hk : KV.lit v = kl := hk
  have hmn : m = nSlots v.1 := (h.blk _ hm).1
  subst hmn
  refine ⟨v, g, hm, lawV.inj hx ((keyV v).trans (congrArg some hk)), ?_, hk.symm⟩
  have h1 := hr.at_ (v, slV (g, nSlots v.1)) (by unfold mapV; exact List.mem_map.mpr ⟨_, hm, rfl⟩) .nil
  rw [show KV.lit (v, slV (g, nSlots v.1)).1 = kl from hk, hat] at h1
  have h2 : RV c = some (.held (slV (g, nSlots v.1)), y.2) := by rw [hy, ← h1]
  exact RV_inv h2
end Go.Proofs.Ytiliggleplpjbaa
/- scan: maps.Values over the map of the best, for any body. -/
namespace Go.Proofs.Ytiliggleplpjbaa
set_option linter.unusedVariables false
set_option linter.unusedSimpArgs false
open Go Go.RowKit Go.Maps Go.Sort Go.Shelf Go.Proofs
attribute [local go_sem] Oper.semAt_some
theorem keysS_perm {D : DataW Value} {L : List (By × Value)} (h : MpR KS D L) : (L.map Prod.fst).Perm (strKeys D) := by
  obtain ⟨es, rfl, -⟩ := h.tidy
  refine perm_of_sub ?_ (fun k hk => ?_) ?_
  · exact List.pairwise_map.mpr h.dist
  · obtain ⟨e, he, rfl⟩ := List.mem_map.mp hk
    have h1 := h.has e.1
    rw [(hasP_iff L e.1).mpr ⟨e, he, rfl⟩, has_eq, List.any_eq_true] at h1
    obtain ⟨p, hp, hs⟩ := h1
    have hp1 : p.1 = KS.lit e.1 := (WideAt.sameKey_iff (b := KS.lit e.1) trivial).mp hs
    show e.1 ∈ es.map fun p => strOf p.1
    exact List.mem_map.mpr ⟨p, hp, by rw [hp1]; rfl⟩
  · have := h.size
    show (es.map fun p => strOf p.1).length ≤ _
    rw [List.length_map, List.length_map]
    exact Nat.le_of_eq this
/-- what the map of the best hands out next -/
theorem vals_next {L : List (By × Eb)} {W : World} {b r n cnt : Nat} {D : DataW Value} {left : Lit → Bool} (hr : MpR KS D (mapV ebV L)) (hrg : W.ranges Try.prog 9 RV b r n D left cnt) {x c : Value} {kl : Lit} {y : DataW Value × List MemPlace}
    (hx : keyOf Try.prog 9 x = some kl) (hl : left kl = true) (hy : RV c = some y) (hat : ∀ zd, D.atKey kl zd = y.1) : ∃ e ∈ L, x = encStr e.1 ∧ c = ebV e.2 ∧ kl = .string e.1 := by
  obtain ⟨e, he, hk⟩ := ranges_key hrg hr hl
  unfold mapV at he
  obtain ⟨e0, hm, rfl⟩ := List.mem_map.mp he
  obtain ⟨x', ex, rfl, _⟩ := Maps.keyOf_str Try.underlying9 hx
  have hk : Lit.string e0.1 = Lit.string x' := hk
  injection hk with hk
  subst hk
  refine ⟨e0, hm, ex, ?_, rfl⟩
  have h1 := hr.at_ (e0.1, ebV e0.2) (by unfold mapV; exact List.mem_map.mpr ⟨_, hm, rfl⟩) .nil
  rw [show KS.lit (e0.1, ebV e0.2).1 = Lit.string e0.1 from rfl, hat] at h1
  have h2 : RV c = some (.held (ebV e0.2), y.2) := by rw [hy, ← h1]
  exact RV_inv h2
theorem nodup_of_keys {ys : List (By × Eb)} (h : (ys.map (·.1)).Nodup) : ys.Nodup := List.Pairwise.imp (fun h e => h (by rw [e])) (List.pairwise_map.mp h)
theorem perm_of_keys {L ys : List (By × Eb)} (h1 : ∀ e ∈ ys, e ∈ L) (h2 : (ys.map (·.1)).Nodup) (h3 : (ys.map (·.1)).Perm (L.map (·.1))) : ys.Perm L := by
  haveI : DecidableEq (By × Eb) := fun a b => Classical.propDecidable _
  refine perm_of_sub (nodup_of_keys h2) h1 ?_
  have := h3.length_eq
  simp only [List.length_map] at this
  exact Nat.le_of_eq this.symm
set_option maxRecDepth 100000 in
set_option maxHeartbeats 4000000 in
theorem valuesE_in (n : Nat) (hn : 1 ≤ n) (l Bm b nn : Nat) (D : DataW Value) (L : List (By × Eb)) (hr : Hid (MpR KS D (mapV ebV L))) (J Jx : List (By × Eb) → World → Prop) (W : World) (hJ : AbidesFrom W.heap.size J)
    (hY : ∀ pre x W1, J pre W1 → pre.length < L.length → YieldAt Fence.wide (n - 1) Try.prog l #[ebV x.2] W1 fun e W' =>
      (e = .returned (.bool true) ∧ J (pre ++ [x]) W' ∧ KeepsWalks W1 W') ∨ (e = .returned (.bool false) ∧ Jx (pre ++ [x]) W'))
    (hm : W.cell? ⟨Bm, 0, none⟩ = some (.map (some b))) (hown : W.ownsMap Try.prog 9 RV b nn D) (h0 : J [] W) :
    CallsIn Fence.wide n Try.prog 48 #[.func (.yield l) #[] #[], .pointer (some ⟨Bm, 0, none⟩)] W fun e W' => (∃ v, e = .returned v) ∧
      ((∃ ys, ys.Perm L ∧ J ys W') ∨ (∃ pre : List (By × Eb), True ∧ Jx pre W')) := by
  have hsz := Lib.hid hr.out.size
  have hown' := Lib.hid hown
  refine callsIn_of_wp Try.func48 rfl trivial ?_ rfl
  simp only [Try.ntmps48, List.size_toArray, List.length_cons, List.length_nil, Nat.reduceAdd, Nat.reduceSub, Array.replicate_succ, Array.replicate_zero, List.push_toArray, List.append_toArray, List.nil_append, List.cons_append]
  gi_wp2_with (first
    | (gi_at_range; refine wpListIn_range_own _ rfl _ 52 rfl 9 32 (string_keyed Try.underlying9) Try.underlying52 _ b nn _ rfl hown ?_; intro w0 hrg0 hg0 hs0)
    | gi_in)
  go_frame
  gi_loopw [4] (fun _ wr => ∃ (left : Lit → Bool) (cnt : Nat) (ps : List (By × Eb)), wr.ranges Try.prog 9 RV b W.heap.size nn D left cnt ∧ Hid (ps.length + cnt ≤ L.length) ∧ Hid (Collected D left (ps.map (·.1))) ∧ Hid (∀ p ∈ ps, p ∈ L) ∧ J ps wr)
    (fun _ wr => wr.rangeLeft b W.heap.size)
  case atStart =>
    exact ⟨_, _, [], hrg0, Lib.hid (by have := hsz.out; unfold mapV at this; rw [List.length_map] at this; simp; omega), Lib.hid (Collected.start D), Lib.hid (by simp), hJ [] W w0 none h0 hg0 (fun r e => by cases e)⟩
  case round =>
    obtain ⟨left, cnt, ps, hrg, hcs, hC, hV, hJs⟩ := hrel
    clear hrg0 hg0 hs0
    gi_wp2_with (first
      | (gi_at_next; refine wpListIn_next_ranges _ rfl _ rfl 9 (string_keyed Try.underlying9) RV encStr (fun x : Value => x) (fun key kl hk => by obtain ⟨x, hx, _⟩ := Maps.keyOf_str Try.underlying9 hk; exact ⟨x, hx⟩) (fun v y hv => ⟨v, rfl⟩) b W.heap.size nn _ _ _ rfl hrg ?_ ?_)
      | gi_in)
    · intro hc0 hl0
      gi_wp2
      go_end0
      refine ⟨⟨_, rfl⟩, .inl ⟨ps, ?_, hJs⟩⟩
      have hp := hC.out.perm hown'.out (string_keyed Try.underlying9) Try.underlying9 hl0
      have hp2 := keysS_perm hr.out
      have hcm : (mapV ebV L).map Prod.fst = L.map (·.1) := by unfold mapV; rw [List.map_map]; rfl
      rw [hcm] at hp2
      exact perm_of_keys hV.out hC.out.1 (hp.trans hp2.symm)
    · intro x c kl yd yp w2 cnt2 hkey hlk hv hat hrg2 hlt hg2 hs2 hen
      obtain ⟨e0, he0, ex, rfl, rfl⟩ := vals_next hr.out hrg hkey hlk hv hat
      obtain rfl : x = e0.1 := encStr_inj ex
      have hJ2 : J ps w2 := hJ ps wr w2 (some W.heap.size) hJs hg2 (fun r e => by cases e; exact ⟨Nat.le_refl _, hrg.iter_walk⟩)
      obtain ⟨k0, ⟨⟨ek, eg, ez, eu, el⟩, g⟩⟩ := e0
      simp only at hkey hlk hat hrg2 hen hv
      have hC2 : Hid (Collected D (fun z => left z && !z.sameKey (.string k0)) ((ps ++ [(k0, (⟨⟨ek, eg, ez, eu, el⟩, g⟩ : Eb))]).map (·.1))) := Lib.hid (by simpa using hC.out.step hlk hat)
      have hV2 : Hid (∀ p ∈ ps ++ [(k0, (⟨⟨ek, eg, ez, eu, el⟩, g⟩ : Eb))], p ∈ L) := Lib.hid (fun p hp => (List.mem_append.1 hp).elim (hV.out p) (fun e => by simp at e; subst e; exact he0))
      obtain ⟨w3, hw3⟩ : ∃ w3, w2.alloc (.cells #[.string (bs ek), .int .i64 eg, .int .i64 ez, .string (bs eu), .slice (some ⟨g, 0, none⟩) el.length el.length] 32) = w3 := ⟨_, rfl⟩
      have hg3 : Gr w2 w3 := by rw [← hw3]; exact Gr.alloc _ _
      have hx3 : w3.heap[w2.heap.size]? = some (.cells #[.string (bs ek), .int .i64 eg, .int .i64 ez, .string (bs eu), .slice (some ⟨g, 0, none⟩) el.length el.length] 32 (0, 0)) := by rw [← hw3]; exact heap_alloc_new w2 _
      have hJ3 : J ps w3 := Abides_gr hJ hJ2 hg3
      have hpl : ps.length < L.length := by have := hcs.out; omega
      obtain ⟨fn, tmps, assign, body, hy, hR⟩ := hY ps (k0, ⟨⟨ek, eg, ez, eu, el⟩, g⟩) w3 hJ3 hpl
      have hcs2 : Hid ((ps ++ [(k0, (⟨⟨ek, eg, ez, eu, el⟩, g⟩ : Eb))]).length + cnt2 ≤ L.length) := Lib.hid (by have := hcs.out; simp; omega)
      have hrg3 := Lib.hid (hrg2.kept hg3.grown (fun e => by cases e) (fun e => by cases e))
      replace hlt := Lib.hid hlt
      have hleq := Lib.hid hrg.left_eq
      have z0 := blk_cell (j := 0) hx3 rfl
      have z1 := blk_cell (j := 1) hx3 rfl
      have z2 := blk_cell (j := 2) hx3 rfl
      have z3 := blk_cell (j := 3) hx3 rfl
      have z4 := blk_cell (j := 4) hx3 rfl
      clear hs2 hY hx3 hJ2 hrg2 hkey hlk hat hv hpl hsz hC hV hcs hrg
      replace hg2 := Lib.hid hg2
      replace hg3 := Lib.hid hg3
      unfold ebV at hy hen ⊢
      simp only at hy hen ⊢
      obtain ⟨z, hz⟩ : ∃ z, el.length = z := ⟨_, rfl⟩
      rw [hz] at hy hen z4 hw3
      simp only [hz]
      replace hz := Lib.hid hz
      replace he0 := Lib.hid he0
      clear ex hJs
      gi_wp2
      replace hw3 := Lib.hid hw3
      refine hR.mono ?_
      rintro e W3 (⟨rfl, hJ4, hk3⟩ | ⟨rfl, hJx3⟩)
      · gi_wp2
        have hrg4 := hrg3.out.of_walks hk3
        go_roundw
        case rel => exact ⟨_, cnt2, _, hrg4, hcs2, hC2, hV2, hJ4⟩
        case measure => rw [hrg4.left_eq, hleq.out]; exact hlt.out
      · gi_wp2
        refine bodyPost_ret (results_none rfl _ _ _) rfl ?_
        exact ⟨⟨_, rfl⟩, .inr ⟨_, trivial, hJx3⟩⟩
theorem valuesE_stops (n : Nat) (hn : 1 ≤ n) (Bm b nn : Nat) (D : DataW Value) (L : List (By × Eb)) (hr : Hid (MpR KS D (mapV ebV L))) (w : World) (hBm : Bm < w.heap.size) (hm : w.cell? ⟨Bm, 0, none⟩ = some (.map (some b))) (hown : w.ownsMap Try.prog 9 RV b nn D) :
    SeqStopsK Fence.wide n Try.prog 48 #[.pointer (some ⟨Bm, 0, none⟩)] (fun x : By × Eb => #[ebV x.2]) KeepsWalks (fun ys => ys.Perm L) (fun _ => True) L.length w := fun l J Jx W hW hJ _ hY h0 => by
  have hown' : W.ownsMap Try.prog 9 RV b nn D := by
    have hbl := hown.lt
    obtain ⟨es, clock, hb, Ft, hs, hD⟩ := hown
    exact ⟨es, clock, (hW.block b hbl).trans hb, Ft, hs, hD⟩
  exact valuesE_in n hn l Bm b nn D L hr J Jx W hJ hY ((hW.cell (p := ⟨Bm, 0, none⟩) hBm).trans hm) hown' h0
theorem values_any (mb : Option Nat) (w : World) : Calls Try.prog 23 #[.map mb] w fun e w' => e = .returned (.func (.func 48) #[] #[.pointer (some ⟨w.heap.size, 0, none⟩)]) ∧ w' = w.alloc (.cells #[.map mb] 52) := by
  go_enter Try.func23, Try.ntmps23
  go_wp2
  go_ret
  exact ⟨rfl, rfl⟩
end Go.Proofs.Ytiliggleplpjbaa
/- scan: slices.Collect over maps.Values of the map of the best. -/
namespace Go.Proofs.Ytiliggleplpjbaa
set_option linter.unusedVariables false
set_option linter.unusedSimpArgs false
open Go Go.RowKit Go.Maps Go.Sort Go.Shelf Go.Proofs
attribute [local go_sem] Oper.semAt_some
/-- rows of such entries -/
def Eb.cells (x : Eb) : List Value := [.string (bs x.e.key), .int .i64 x.e.gen, .int .i64 x.e.size, .string (bs x.e.sum), .slice (some ⟨x.g, 0, none⟩) x.e.places.length x.e.places.length]
def flatEb (E : List Eb) : List Value := E.flatMap Eb.cells
theorem flatEb_len (E : List Eb) : (flatEb E).length = E.length * 5 := by
  induction E with
  | nil => rfl
  | cons q l ih => simp [flatEb, Eb.cells] at *; omega
theorem flatEb_app (l m : List Eb) : flatEb (l ++ m) = flatEb l ++ flatEb m := by simp [flatEb]
theorem flatEb_at {l : List Eb} {i : Nat} {x : Eb} (h : l[i]? = some x) (j : Nat) (hj : j < 5) : (flatEb l)[i * 5 + j]? = x.cells[j]? := by
  induction l generalizing i with
  | nil => simp at h
  | cons p l ih =>
    have hp : p.cells.length = 5 := rfl
    show (p.cells ++ flatEb l)[_]? = _
    cases i with
    | zero =>
      simp at h; subst h
      rw [List.getElem?_append_left (by omega)]
      congr 1; omega
    | succ i =>
      have h' : l[i]? = some x := by simpa using h
      rw [List.getElem?_append_right (by omega), hp, show (i + 1) * 5 + j - 5 = i * 5 + j from by omega]
      exact ih h'
theorem flatEb_one (l : List Eb) : ∀ v ∈ flatEb l, v.oneCell' = true := fun v hv => by
  unfold flatEb at hv
  obtain ⟨x, -, h⟩ := List.mem_flatMap.mp hv
  simp [Eb.cells] at h
  rcases h with rfl | rfl | rfl | rfl | rfl <;> rfl
def OEb (E : List Eb) (v : Value) (base : Nat) (w : World) : Prop := w.ownsRow base 32 5 v E.length (flatEb E)
theorem info_entry : (Try.prog.info? 32).map (fun i => (i.zero, i.size, i.bytes)) = some (some (.agg #[.string ⟨#[]⟩, .int .i64 0, .int .i64 0, .string ⟨#[]⟩, .slice none 0 0]), 5, 72) := by kernel_rfl
/-- the box at Bs holds such a row -/
def BoxE (base Bs : Nat) (w0 : World) (l : List Eb) (W : World) : Prop := ∃ v, W.heap[Bs]? = some (.cells #[v] 24 (0, 0)) ∧ OEb l v base W ∧ Below base w0 W
theorem OEb.own {base : Nat} {l : List Eb} {v : Value} {W W' : World} {row : Option Nat} (h : OEb l v base W) (hg : W.grownBy W' row) (hr : ∀ r, row = some r → ∃ o : Obj, W.heap[r]? = some o ∧ o.isCells = false) : OEb l v base W' :=
  World.ownsRow.kept h hg (by
    cases hu : v.ownBlock with
    | none => exact .inl rfl
    | some k =>
      refine .inr (fun e => ?_)
      obtain ⟨o, ho', hc⟩ := hr k e.symm
      rcases h.2 with ⟨rfl, -⟩ | ⟨g, cap, cur, rfl, -, hgb, -⟩
      · cases hu
      · injection hu with hu
        subst hu
        rw [hgb] at ho'
        injection ho' with ho'
        subst ho'
        cases hc)
theorem BoxE.own {base Bs : Nat} {w0 : World} {l : List Eb} {W W' : World} {row : Option Nat} (h : BoxE base Bs w0 l W) (hb : base ≤ Bs) (hg : W.grownBy W' row) (hr : ∀ r, row = some r → base ≤ r ∧ ∃ o : Obj, W.heap[r]? = some o ∧ o.isCells = false) : BoxE base Bs w0 l W' := by
  obtain ⟨v, hv, ho, hbw⟩ := h
  have hBs : Bs < W.heap.size := (Array.getElem?_eq_some_iff.mp hv).1
  exact ⟨v, cells_own _ _ _ hv hg (fun r e => (hr r e).2), ho.own hg (fun r e => (hr r e).2), hbw.grown hg (Nat.le_trans hb (Nat.le_of_lt hBs)) (fun k e => (hr k e).1)⟩
/-- the loop variable lies in its own block -/
def AxE (lo : Nat) (mk : Nat → Eb → Act) (x : Eb) (a' : Act) (W : World) : Prop := ∃ Bx, lo < Bx ∧ W.heap[Bx]? = some (.cells x.cells.toArray 32 (0, 0)) ∧ a' = mk Bx x
theorem AxE.own {lo B : Nat} {mk : Nat → Eb → Act} {x : Eb} {a' : Act} : OwnFrom B (fun (_ : Unit) W => AxE lo mk x a' W) := fun _ W W' row h hg hr => by
  obtain ⟨Bx, h1, h2, h3⟩ := h
  exact ⟨Bx, h1, cells_own _ _ _ h2 hg (fun r e => (hr r e).2), h3⟩
set_option maxRecDepth 100000 in
set_option maxHeartbeats 4000000 in
theorem appendSeqE_any (base Bm b t : Nat) (L : List (By × Eb)) (w : World) (hbase : base ≤ w.heap.size) (hBm : w.cell? ⟨Bm, 0, none⟩ = some (.map (some b))) (hBl : Bm < w.heap.size)
    (h : MapB w 9 KS b t (mapV ebV L)) (hl : L.length ≤ 1000000) :
    Calls Try.prog 59 #[.slice none 0 0, .func (.func 48) #[] #[.pointer (some ⟨Bm, 0, none⟩)]] w fun e w' => ∃ (A : Option Addr) (c : Nat) (ys : List (By × Eb)), e = .returned (.slice A L.length c) ∧ ys.Perm L ∧ OEb (ys.map (·.2)) (.slice A L.length c) base w' ∧ Below base w w' := by
  obtain ⟨n, D, -, hown, hrel⟩ := h
  obtain ⟨w1, hw1⟩ : ∃ w1, w.alloc (.cells #[.slice none 0 0] 24) = w1 := ⟨_, rfl⟩
  have hg1 : Gr w w1 := by rw [← hw1]; exact Gr.alloc _ _
  obtain ⟨Bs, hBs⟩ : ∃ Bs, w.heap.size = Bs := ⟨_, rfl⟩
  have hb1 : w1.heap[Bs]? = some (.cells #[.slice none 0 0] 24 (0, 0)) := by rw [← hw1, ← hBs]; exact heap_alloc_new w _
  have hs1 : w1.heap.size = Bs + 1 := by rw [← hw1, ← hBs]; simp
  have hI0 : BoxE base Bs w [] w1 := ⟨_, hb1, World.ownsRow_nil w1 base _ 5, Below.mono hg1 hbase⟩
  have hown1 : w1.ownsMap Try.prog 9 RV b n D := by
    have hbl := hown.lt
    obtain ⟨es, clock, hb, Ft, hs, hD⟩ := hown
    exact ⟨es, clock, (Below.block hg1 b hbl).trans hb, Ft, hs, hD⟩
  have hcell1 : w1.cell? ⟨Bm, 0, none⟩ = some (.map (some b)) := (cellGr hg1 (a := ⟨Bm, 0, none⟩) hBl).trans hBm
  have hseq := valuesE_stops (8 - 1) (by omega) Bm b n D L (Lib.hid hrel) w1 (by rw [hs1, ← hBs]; omega) hcell1 hown1
  obtain ⟨i0, hi, hz0, hz1, hz2⟩ := info_parts info_entry
  refine (callsIn_wide (n := 8)).1 ?_
  refine callsIn_of_wp_marks Try.func59 rfl trivial ?_ rfl
  simp only [Try.ntmps59, List.size_toArray, List.length_cons, List.length_nil, Nat.reduceAdd, Nat.reduceSub, Array.replicate_succ, Array.replicate_zero, List.push_toArray, List.append_toArray, List.nil_append, List.cons_append]
  refine wpIn_wide.2 ?_
  replace hown := Lib.hid hown
  replace hg1 := Lib.hid hg1
  replace hcell1 := Lib.hid hcell1
  replace hb1 := Lib.hid hb1
  replace hBm := Lib.hid hBm
  go_wp2_with fail
  replace hw1 := Lib.hid hw1
  have hBs' := hBs
  replace hBs := Lib.hid hBs
  refine (wpIn_wide (n := 8)).1 ?_
  refine wpIn_rangeFunc_ownH rfl (by omega) (gf := 48) (lb := #[.pointer (some ⟨Bm, 0, none⟩)]) rfl trivial (enters_of Try.func48 (by kernel_rfl) rfl)
    hseq KeepsWalks.trans (fun W l o o' _ h2 h3 h4 => KeepsWalks.putObj o' h2 h4) (Below.refl _ _) (fun _ => rfl)
    (fun (pre : List (By × Eb)) W => BoxE base Bs w (pre.map (fun x : By × Eb => x.2)) W)
    (fun _ _ _ => False)
    (fun s W W' row hs hg9 hr => BoxE.own (l := s.map (fun x : By × Eb => x.2)) hs (by rw [← hBs.out]; exact hbase) hg9 (fun r e => ⟨Nat.le_trans (by rw [hs1]; have := hBs.out; omega) (hr r e).1, (hr r e).2⟩))
    (fun _ _ _ _ _ hs _ _ => hs)
    hI0
    (fun x a' W => AxE Bs (fun Bx x => { tmps := #[.slice none 0 0, .func (.func 48) #[] #[.pointer (some ⟨Bm, 0, none⟩)], .pointer (some ⟨Bs, 0, none⟩), undef, .slice none 0 0, .pointer (some ⟨Bx, 0, none⟩), .func (.func 48) #[] #[.pointer (some ⟨Bm, 0, none⟩)], .agg x.cells.toArray, undef, undef, undef, undef, undef], defers := [] }) x.2 a' W)
    (fun x a' => AxE.own) ?assign ?body ?done ?stop
  case assign =>
    rintro l pre ⟨kx, ⟨⟨ek, eg, ez, eu, el⟩, g⟩⟩ W K hI hK
    obtain ⟨v, hv, ho, hbw⟩ := hI
    have hBW : Bs < W.heap.size := blk_lt hv
    have hbW : base ≤ W.heap.size := by have := hBs.out; omega
    unfold ebV
    dsimp only
    gi_wp2
    refine hK _ _ ((KeepsOthers.alloc _ _).from _) ((KeepsOthers.alloc _ _).walks) ⟨v, blk_alloc hv _, row_below ho (Gr.alloc _ _), hbw.trans (Below.mono (Gr.alloc _ _) hbW)⟩ ⟨W.heap.size, hBW, heap_alloc_new W _, rfl⟩
  case body =>
    rintro lr pre ⟨kx, ⟨⟨ek, eg, ez, eu, el⟩, g⟩⟩ a' W hl1 hr1 ⟨v, hv, ho, hbw⟩ ⟨Bx, hB1, hB2, rfl⟩ hlt
    obtain ⟨A1, c1, rfl, -, -⟩ := row_form ho
    obtain ⟨xe, hxe⟩ : ∃ xe : Eb, (⟨⟨ek, eg, ez, eu, el⟩, g⟩ : Eb) = xe := ⟨_, rfl⟩
    have hcs : xe.cells = [.string (bs ek), .int .i64 eg, .int .i64 ez, .string (bs eu), .slice (some ⟨g, 0, none⟩) el.length el.length] := by rw [← hxe]; rfl
    have hfl : flatEb [xe] = [.string (bs ek), .int .i64 eg, .int .i64 ez, .string (bs eu), .slice (some ⟨g, 0, none⟩) el.length el.length] := by rw [← hxe]; rfl
    simp only [hxe, hcs] at hB2 ⊢
    obtain ⟨z, hz⟩ : ∃ z, el.length = z := ⟨_, rfl⟩
    rw [hz] at hB2 hcs hfl
    simp only [hz]
    obtain ⟨m1, hm1⟩ : ∃ m, (pre.map (·.2)).length = m := ⟨_, rfl⟩
    have hml : m1 ≤ 1000000 := by rw [← hm1, List.length_map]; omega
    unfold OEb at ho
    rw [hm1] at hv ho
    have k0 := blk_cell (j := 0) hv rfl
    have f0 := blk_free hv 0
    have y0 := blk_cell (j := 0) hB2 rfl
    have y1 := blk_cell (j := 1) hB2 rfl
    have y2 := blk_cell (j := 2) hB2 rfl
    have y3 := blk_cell (j := 3) hB2 rfl
    have y4 := blk_cell (j := 4) hB2 rfl
    have hBW : Bs < W.heap.size := blk_lt hv
    have ho2 := row_below ho (Gr.alloc W (.cells #[.string (bs ek), .int .i64 eg, .int .i64 ez, .string (bs eu), .slice (some ⟨g, 0, none⟩) z z] 32))
    have hv2 := blk_alloc hv (.cells #[.string (bs ek), .int .i64 eg, .int .i64 ez, .string (bs eu), .slice (some ⟨g, 0, none⟩) z z] 32)
    have hne : (Value.slice A1 m1 c1).ownBlock ≠ some Bs := row_ne ho hv (by decide)
    have hsz2 : base ≤ (W.alloc (.cells #[.string (bs ek), .int .i64 eg, .int .i64 ez, .string (bs eu), .slice (some ⟨g, 0, none⟩) z z] 32)).heap.size := Nat.le_trans hbase (Nat.le_trans (by rw [hBs.out]; exact Nat.le_of_lt hBW) (by simp))
    have hone : ∀ v ∈ [(.string (bs ek) : Value), .int .i64 eg, .int .i64 ez, .string (bs eu), .slice (some ⟨g, 0, none⟩) z z], v.oneCell' = true := by rw [← hfl]; exact flatEb_one [xe]
    replace hv := Lib.hid hv
    replace hB2 := Lib.hid hB2
    replace hz := Lib.hid hz
    replace hxe := Lib.hid hxe
    replace hcs := Lib.hid hcs
    replace hfl := Lib.hid hfl
    refine wpIn_block ?_
    gi_wp2_with (first
      | (gi_at_builtin; refine wpListIn_append_own _ rfl _ _ 24 rfl base 32 i0 (.agg #[.string ⟨#[]⟩, .int .i64 0, .int .i64 0, .string ⟨#[]⟩, .slice none 0 0]) 5 72 Try.underlying24 hi hz0 hz1 hz2 rfl (by decide) _ _ _ rfl ho2 ⟨W.heap.size, 0, none⟩ 1 1 [.string (bs ek), .int .i64 eg, .int .i64 ez, .string (bs eu), .slice (some ⟨g, 0, none⟩) z z] rfl rfl (fun j u hj => by rw [addr0]; exact cell_new W _ _ (by simpa using hj)) hone (by simp only [maxLen]; omega) (by omega) hsz2 ?_; intro v3 w3 ho3 hg3 _
         have hv3 := blk_grow hv2 hg3 hne
         have k3 := blk_cell (j := 0) hv3 rfl
         have f3 := blk_free hv3 0
         clear k0 f0
         obtain ⟨A3, c3, rfl, -, -⟩ := row_form ho3)
      | gi_round_op_a)
    have hbs := blk_set hv3 0 (.slice A3 (m1 + 1) c3)
    have ko : KeepsOthers W (w3.setCell ⟨Bs, 0, none⟩ (.slice A3 (m1 + 1) c3)) := ((KeepsOthers.alloc _ _).trans (KeepsOthers.of_grownBy hg3 (fun j o hj ho' => by
      rcases ho2.2 with ⟨e, -⟩ | ⟨g, cap, cur, e, -, hgb, -⟩
      · rw [e] at hj; cases hj
      · rw [e] at hj
        injection hj with hj
        subst hj
        rw [hgb] at ho'
        injection ho' with ho'
        subst ho'
        rfl))).trans (KeepsOthers.setCell _ _ _)
    refine ⟨ko.from _, ko.walks, _, hbs, ?_, ?_⟩
    · unfold OEb
      rw [List.map_append, List.length_append, hm1, flatEb_app, List.map_singleton]
      dsimp only
      rw [hfl.out]
      refine row_set_other ho3 _ _ _ (fun e => ?_)
      exact row_ne ho3 hv3 (by decide) e
    · exact ((hbw.trans (Below.mono (Gr.alloc W _) (Nat.le_trans hbase (by rw [hBs.out]; exact Nat.le_of_lt hBW)))).grown hg3 hsz2 (fun k e => (ho2.lt k e).1)).setCell (p := ⟨Bs, 0, none⟩) (by rw [← hBs.out]; exact hbase) _
  case done =>
    rintro D' ys W hD hS hI hK
    have hDl : D' < W.heap.size := (Array.getElem?_eq_some_iff.mp hK).1
    obtain ⟨v, hv, ho, hbw⟩ := hI
    obtain ⟨A1, c1, rfl, -, -⟩ := row_form ho
    have hyl : (ys.map (·.2)).length = L.length := by rw [List.length_map]; exact hS.length_eq
    rw [hyl] at hv ho
    have k0 := blk_cell (j := 0) hv rfl
    replace hK := Lib.hid hK
    replace hv := Lib.hid hv
    replace ho := Lib.hid ho
    replace hyl := Lib.hid hyl
    obtain ⟨m9, hm9⟩ : ∃ m, L.length = m := ⟨_, rfl⟩
    rw [hm9] at k0 hv ho
    replace hm9 := Lib.hid hm9
    go_wp2_with fail
    refine ⟨by simp, .inl ⟨_, _, rfl, run_takeDeferred hK.out, ?_⟩⟩
    refine ⟨_, results_tmp rfl _ _ _, ?_⟩
    have hDb : base ≤ D' := Nat.le_trans (by rw [hs1]; have := hBs.out; omega) hD
    have hrow : ∀ r, some D' = some r → ∃ o : Obj, W.heap[r]? = some o ∧ o.isCells = false := fun r e => by
      injection e with e
      subst e
      exact ⟨_, hK.out, rfl⟩
    rw [hm9.out]
    exact ⟨A1, c1, ys, rfl, hS, OEb.own ho.out (grownBy_putObj' W D' _) hrow, hbw.grown (grownBy_putObj' W D' _) (Nat.le_trans hDb (Nat.le_of_lt hDl)) (fun k e => by injection e with e; omega)⟩
  case stop =>
    rintro D c pre W _ _ h _
    exact h.elim
end Go.Proofs.Ytiliggleplpjbaa
/- scan: slices.SortedFunc by key over the map of the best. -/
namespace Go.Proofs.Ytiliggleplpjbaa
set_option linter.unusedVariables false
set_option linter.unusedSimpArgs false
open Go Go.RowKit Go.Maps Go.Sort Go.Shelf Go.Proofs
instance : Inhabited Eb := ⟨⟨⟨[], 0, 0, [], []⟩, 0⟩⟩
theorem encB_len (x : Eb) : x.cells.length = 5 := rfl
theorem encB_one (x : Eb) : ∀ v ∈ x.cells, v.oneCell' = true := fun v hv => flatEb_one [x] v (by unfold flatEb; rw [List.flatMap_cons, List.flatMap_nil, List.append_nil]; exact hv)
def cfB (x y : Eb) : Int := cmpB x.e.key y.e.key
theorem ltB_iff (x y : Eb) : ltOf cfB x y = true ↔ x.e.key < y.e.key := by unfold ltOf cfB; simp only [decide_eq_true_eq]; exact (cmpB_iff _ _).1
theorem bl_total {x y : By} (h1 : ¬ x < y) (h2 : ¬ y < x) : x = y := by
  by_cases h : x = y
  · exact h
  · exact absurd (bl_ne h1 h) h2
theorem swoB : SWO (ltOf cfB) where
  irrefl x := by rw [← Bool.not_eq_true, ltB_iff]; exact bl_irrefl _
  trans x y z h1 h2 := (ltB_iff x z).mpr (bl_trans ((ltB_iff x y).mp h1) ((ltB_iff y z).mp h2))
  ntrans x y z h1 h2 := by
    rw [← Bool.not_eq_true, ltB_iff] at *
    intro h
    by_cases hxy : y.e.key < x.e.key
    · exact h2 (bl_trans hxy h)
    · have := bl_total h1 hxy
      rw [this] at h
      exact h2 h
theorem flatB (L : List Eb) : (flatK Eb.cells 5 L.toArray).toList = flatEb L := by
  apply List.ext_getElem?
  intro j
  by_cases hj : j < L.length * 5
  · obtain ⟨x, hx⟩ : ∃ x, L[j / 5]? = some x := ⟨_, List.getElem?_eq_getElem (by omega)⟩
    have ex : L.toArray[j / 5]! = x := by
      obtain ⟨hi, e⟩ := List.getElem?_eq_some_iff.mp hx
      rw [getElem!_pos L.toArray (j / 5) (by simpa using hi)]
      simpa using e
    have hs : j < (flatK Eb.cells 5 L.toArray).size := by rw [size_flatK]; simpa using hj
    have h1 := get_flatK Eb.cells 5 L.toArray j (by simpa using hj)
    rw [ex, getElem!_pos _ j hs, getElem!_pos x.cells (j % 5) (by rw [encB_len]; omega)] at h1
    have h2 := flatEb_at (l := L) (i := j / 5) (x := x) hx (j % 5) (by omega)
    rw [show j / 5 * 5 + j % 5 = j from by omega] at h2
    rw [h2, Array.getElem?_toList, Array.getElem?_eq_getElem hs, h1]
    exact (List.getElem?_eq_getElem (by show j % 5 < 5; omega)).symm
  · rw [List.getElem?_eq_none (by rw [Array.length_toList, size_flatK]; simpa using Nat.le_of_not_lt hj), List.getElem?_eq_none (by rw [flatEb_len]; omega)]
def GD (w w' : World) : Prop := ∃ q os, w' = grow (w.drewN q) os
theorem closB_any (x y : Eb) (W : World) : Calls Try.prog 24 #[.agg x.cells.toArray, .agg y.cells.toArray] W fun e w' => e = .returned (.int .i64 (cfB x y)) ∧ GD W w' := by
  obtain ⟨⟨xk, xg, xz, xu, xl⟩, xb⟩ := x
  obtain ⟨⟨yk, yg, yz, yu, yl⟩, yb⟩ := y
  unfold cfB
  simp only [Eb.cells]
  generalize xl.length = xn
  generalize yl.length = yn
  obtain ⟨w0, hw0⟩ : ∃ w0, W.alloc (.cells #[.string (bs xk), .int .i64 xg, .int .i64 xz, .string (bs xu), .slice (some ⟨xb, 0, none⟩) xn xn] 32) = w0 := ⟨_, rfl⟩
  obtain ⟨w1, hw1⟩ : ∃ w1, w0.alloc (.cells #[.string (bs yk), .int .i64 yg, .int .i64 yz, .string (bs yu), .slice (some ⟨yb, 0, none⟩) yn yn] 32) = w1 := ⟨_, rfl⟩
  have hG : Hid (GD W w1) := Lib.hid ⟨0, #[.cells #[.string (bs xk), .int .i64 xg, .int .i64 xz, .string (bs xu), .slice (some ⟨xb, 0, none⟩) xn xn] 32 (0, 0), .cells #[.string (bs yk), .int .i64 yg, .int .i64 yz, .string (bs yu), .slice (some ⟨yb, 0, none⟩) yn yn] 32 (0, 0)], by rw [← hw1, ← hw0, alloc_eq_grow, alloc_eq_grow, grow_grow]; rfl⟩
  have hb0 : w0.heap[W.heap.size]? = some (.cells #[.string (bs xk), .int .i64 xg, .int .i64 xz, .string (bs xu), .slice (some ⟨xb, 0, none⟩) xn xn] 32 (0, 0)) := by rw [← hw0]; exact heap_alloc_new W _
  have hb1 : w1.heap[w0.heap.size]? = some (.cells #[.string (bs yk), .int .i64 yg, .int .i64 yz, .string (bs yu), .slice (some ⟨yb, 0, none⟩) yn yn] 32 (0, 0)) := by rw [← hw1]; exact heap_alloc_new w0 _
  have hb01 : w1.heap[W.heap.size]? = some (.cells #[.string (bs xk), .int .i64 xg, .int .i64 xz, .string (bs xu), .slice (some ⟨xb, 0, none⟩) xn xn] 32 (0, 0)) := by rw [← hw1]; exact blk_alloc hb0 _
  have x2 := blk_cell (j := 0) hb01 rfl
  have y2 := blk_cell (j := 0) hb1 rfl
  have hs0 : w0.heap.size = W.heap.size + 1 := by rw [← hw0]; simp
  rw [hs0] at y2
  replace hb0 := Lib.hid hb0
  replace hb1 := Lib.hid hb1
  replace hb01 := Lib.hid hb01
  have hcmp := strCmp_any xk yk w1
  go_enter Try.func24, Try.ntmps24
  go_wp2_with (go_at_call 25; go_must (refine hcmp.mono ?_); rintro e w' ⟨rfl, hww⟩; rw [hww]; clear hww w')
  go_ret
  exact ⟨rfl, hG.out⟩
theorem eb_enter : ∀ args w, (callFunc 24 args).run Try.prog w = .ok (.enter 24 args) w := enters_of Try.func24 (by kernel_rfl) rfl
theorem holdsB {w : World} {g : Nat} {cur : Array Value} {T : TypeId} {L : List Eb} (hb : w.heap[g]? = some (.cells cur T (0, 0))) (ht : cur.toList.take (L.length * 5) = flatEb L) : HoldsK Eb.cells 5 w g 0 L.toArray := by
  intro j hj
  have hj' : j < L.length * 5 := by rw [size_flatK] at hj; simpa using hj
  refine ⟨?_, by simp [World.frozen?, hb]⟩
  have h1 : (cur.toList.take (L.length * 5))[j]? = (flatK Eb.cells 5 L.toArray).toList[j]? := by rw [ht, flatB]
  rw [List.getElem?_take_of_lt hj', Array.getElem?_toList, Array.getElem?_toList, Array.getElem?_eq_getElem hj] at h1
  have h2 := blk_cell (j := j) hb h1
  rw [getElem!_pos _ j hj, Nat.zero_add]
  exact h2
theorem rowB {w : World} {base g cap n : Nat} {T : TypeId} {os : Array Obj} {cur : Array Value} {L L' : List Eb} (hl : L'.length = L.length) (hbase : base ≤ g) (hb : w.heap[g]? = some (.cells cur T (0, 0))) (h1 : L.length ≤ cap) (h2 : cap ≤ maxLen) (h3 : cur.size = cap * 5) :
    (sortWorldK Eb.cells 5 w g 0 n L'.toArray os).ownsRow base T 5 (.slice (some ⟨g, 0, none⟩) L.length cap) L.length (flatEb L') ∧ w.grownBy (sortWorldK Eb.cells 5 w g 0 n L'.toArray os) (some g) := by
  have hg : g < w.heap.size := (Array.getElem?_eq_some_iff.1 hb).1
  have hheap : (sortWorldK Eb.cells 5 w g 0 n L'.toArray os).heap[g]? = some (.cells (putCells id 0 (flatK Eb.cells 5 L'.toArray) cur) T (0, 0)) := by
    unfold sortWorldK putRowK
    rw [heap_grow_old _ _ (by simpa using hg)]
    simp [putRow, mapBlock, Sort.ahead, Array.getElem?_modify, hb, onCells]
  refine ⟨⟨by rw [flatEb_len, hl], .inr ⟨g, cap, _, rfl, hbase, hheap, h1, h2, by simp [putCells, h3], ?_⟩⟩, ?_⟩
  · rw [← flatB]
    apply List.ext_getElem?
    intro j
    by_cases hj : j < L.length * 5
    · have hj2 : j < (flatK Eb.cells 5 L'.toArray).size := by rw [size_flatK]; simpa [hl] using hj
      have hj3 : j < cur.size := by rw [h3]; have := Nat.mul_le_mul_right 5 h1; omega
      rw [List.getElem?_take_of_lt hj, Array.getElem?_toList, Array.getElem?_toList]
      have hj4 : j < (Array.size L'.toArray) * 5 := by rw [size_flatK] at hj2; exact hj2
      have hj5 : j < L'.length * 5 := by simpa using hj4
      simp [putCells, hj3, hj2, hj4, hj5]
    · rw [List.getElem?_take_eq_none (by omega), List.getElem?_eq_none (by rw [Array.length_toList, size_flatK]; simp [hl]; omega)]
  · refine ⟨rfl, rfl, rfl, size_sortWorldK_c Eb.cells 5 w g 0 n _ os, fun k hk hne => ?_⟩
    unfold sortWorldK putRowK
    rw [heap_grow_old _ _ (by simpa using hk)]
    have : g ≠ k := fun e => hne (by rw [e])
    simp [putRow, mapBlock, Sort.ahead, Array.getElem?_modify, this]
theorem sortE_any (L : List Eb) (v : Value) (base : Nat) (w : World) (h : OEb L v base w) (hn : L.length ≤ 1000000) :
    Calls Try.prog 47 #[v, .func (.func 24) #[] #[]] w fun e w' => e = .returned (.tuple #[]) ∧ ∃ L', L'.Perm L ∧ L'.Pairwise (fun a b => ¬ b.e.key < a.e.key) ∧ OEb L' v base w' ∧ Below base w w' := by
  have h' := h
  unfold OEb at h
  rcases h.2 with ⟨rfl, h0⟩ | ⟨g, cap, cur, rfl, hbg, hh, hcap, hmx, hsz, htk⟩
  · obtain rfl : L = [] := List.eq_nil_of_length_eq_zero h0
    refine (AnyF.slices_SortFunc_none Try.scFree none 0 (.func (.func 24) #[] #[]) w).mono ?_
    rintro e w' ⟨rfl, rfl⟩
    exact ⟨rfl, [], List.Perm.refl _, List.Pairwise.nil, h', Below.refl _ _⟩
  · have hg : g < w.heap.size := blk_lt hh
    have hH : HoldsK Eb.cells 5 w g 0 L.toArray := holdsB (L := L) hh htk
    have hcon := AnyQ.slices_SortFunc Try.scFree 5 Try.isAgg32 Try.sizeOf32 Eb.cells encB_len encB_one cfB swoB 24 #[] g 0 cap L.toArray w eb_enter
      (fun _ _ _ _ x y => closB_any x y _) hH hg (by simp; omega)
    have hz : L.toArray.size = L.length := by simp
    rw [hz] at hcon
    refine hcon.mono ?_
    rintro e w' ⟨rfl, d', n, os, ⟨hs1, -, hp⟩, hso, rfl⟩
    rw [hz] at hs1
    have e1 : d'.extract 0 L.length = d' := by rw [← hs1]; exact Array.extract_size
    have e2 : L.toArray.extract 0 L.length = L.toArray := by rw [← hz]; exact Array.extract_size
    rw [e1, e2] at hp
    have hp : d'.toList.Perm L := hp
    have hl' : d'.toList.length = L.length := hp.length_eq
    obtain ⟨hr, hgr⟩ := rowB (n := n) (os := os) (L := L) (L' := d'.toList) hl' hbg hh hcap hmx hsz
    refine ⟨rfl, d'.toList, hp, ?_, ?_, (Below.refl base w).grown hgr (by omega) (fun k hk => by injection hk with hk; omega)⟩
    · rw [List.pairwise_iff_getElem]
      intro i j hi hj hij
      have hi' : i < d'.size := by simpa using hi
      have hj' : j < d'.size := by simpa using hj
      have := hso i j (Nat.zero_le _) hij (by omega)
      rw [getElem!_pos d' j hj', getElem!_pos d' i hi', ← Bool.not_eq_true, ltB_iff] at this
      simpa using this
    · unfold OEb
      rw [hl']
      exact hr
theorem collectE_any (Bm b t : Nat) (L : List (By × Eb)) (w : World) (hBm : w.cell? ⟨Bm, 0, none⟩ = some (.map (some b))) (hBl : Bm < w.heap.size) (h : MapB w 9 KS b t (mapV ebV L)) (hl : L.length ≤ 1000000) :
    Calls Try.prog 46 #[.func (.func 48) #[] #[.pointer (some ⟨Bm, 0, none⟩)]] w fun e w' => ∃ (A : Option Addr) (c : Nat) (ys : List (By × Eb)), e = .returned (.slice A L.length c) ∧ ys.Perm L ∧ OEb (ys.map (·.2)) (.slice A L.length c) w.heap.size w' ∧ Gr w w' := by
  have hc := Lib.hid (appendSeqE_any w.heap.size Bm b t L w (Nat.le_refl _) hBm hBl h hl)
  replace h := Lib.hid h
  replace hBm := Lib.hid hBm
  generalize L.length = m at hc hl ⊢
  go_enter Try.func46, Try.ntmps46
  go_wp2_with (go_at_call 59; go_must (refine hc.out.mono ?_); clear hc; rintro e w' ⟨A, c, ys, rfl, h1, h2, h3⟩; replace h1 := Lib.hid h1; replace h2 := Lib.hid h2; replace h3 := Lib.hid h3)
  go_ret
  exact ⟨A, c, ys, rfl, h1.out, h2.out, h3.out⟩
/-- slices.SortedFunc by key -/
theorem sortedF_any (Bm b t : Nat) (L : List (By × Eb)) (w : World) (hBm : w.cell? ⟨Bm, 0, none⟩ = some (.map (some b))) (hBl : Bm < w.heap.size) (h : MapB w 9 KS b t (mapV ebV L)) (hl : L.length ≤ 1000000) :
    Calls Try.prog 22 #[.func (.func 48) #[] #[.pointer (some ⟨Bm, 0, none⟩)], .func (.func 24) #[] #[]] w fun e w' => ∃ (A : Option Addr) (c : Nat) (L' : List Eb), e = .returned (.slice A L.length c) ∧ L'.Perm (L.map (·.2)) ∧ L'.Pairwise (fun a b => ¬ b.e.key < a.e.key) ∧ OEb L' (.slice A L.length c) w.heap.size w' ∧ Gr w w' := by
  have hc := Lib.hid (collectE_any Bm b t L w hBm hBl h hl)
  obtain ⟨m, hm⟩ : ∃ m, L.length = m := ⟨_, rfl⟩
  rw [hm] at hc hl ⊢
  replace hm := Lib.hid hm
  replace h := Lib.hid h
  replace hBm := Lib.hid hBm
  go_enter Try.func22, Try.ntmps22
  go_wp2_with (first
    | (go_at_call 46; go_must (refine hc.out.mono ?_); clear hc; rintro e w1 ⟨A, c, ys, rfl, h1, h2, h3⟩
       have hyl : (ys.map (·.2)).length = m := by rw [List.length_map, h1.length_eq, hm.out]
       have hso := Lib.hid (sortE_any (ys.map (·.2)) (.slice A m c) w.heap.size w1 h2 (by rw [hyl]; exact hl))
       replace hyl := Lib.hid hyl
       replace h1 := Lib.hid h1; replace h2 := Lib.hid h2; replace h3 := Lib.hid h3)
    | (go_at_call 47; go_must (refine hso.out.mono ?_); clear hso; rintro e w2 ⟨rfl, L', g1, g2, g3, g4⟩
       replace g1 := Lib.hid g1; replace g2 := Lib.hid g2; replace g3 := Lib.hid g3; replace g4 := Lib.hid g4))
  go_ret
  exact ⟨A, c, L', rfl, g1.out.trans (h1.out.map _), g2.out, g3.out, Below.trans h3.out g4.out⟩
end Go.Proofs.Ytiliggleplpjbaa
/- scan: Best. -/
namespace Go.Proofs.Ytiliggleplpjbaa
set_option linter.unusedVariables false
set_option linter.unusedSimpArgs false
open Go Go.RowKit Go.Maps Go.Proofs
/-- the map of the best, and the copies that it is made of -/
structure BeM (C : List Fd) (S : List Vr) (Bs : List (By × Eb)) (W : World) (bm t : Nat) : Prop where
  map : MapB W 9 KS bm t (mapV ebV Bs)
  key : ∀ e ∈ Bs, e.1 = e.2.e.key
  blk : ∀ e ∈ Bs, W.heap[e.2.g]? = some (.cells (flatPl e.2.e.places).toArray 34 (0, 0))
  best : BestS C S (Bs.map (fun e => e.2.e))
theorem Pls.of_blk {l : List (Int × Int)} {g : Nat} {W : World} (h : W.heap[g]? = some (.cells (flatPl l).toArray 34 (0, 0))) (hI : ∀ x ∈ l, I64 x.1 ∧ I64 x.2) (hl : l.length ≤ maxLen) : Pls l (.slice (some ⟨g, 0, none⟩) l.length l.length) W :=
  ⟨_, _, rfl, Nat.le_refl _, hl, fun _ => ⟨g, 0, rfl, blk_lt h, fun i x hx => by
    obtain ⟨h1, h2⟩ := flatPl_at hx
    rw [Nat.zero_add]
    exact ⟨blk_cell h (by rw [List.getElem?_toArray]; exact h1), blk_cell h (by rw [List.getElem?_toArray]; exact h2)⟩⟩, hI⟩
theorem placesOf_I64 {C : List Fd} (hC : ∀ f ∈ C, cnt f = true) (v : Vr) : ∀ x ∈ placesOf C v, I64 x.1 ∧ I64 x.2 := fun x hx => by
  unfold placesOf at hx
  obtain ⟨i, -, rfl⟩ := List.mem_map.mp hx
  by_cases h : placeOf C v i = nowP
  · rw [h]; unfold nowP I64; simp only; omega
  · obtain ⟨f, hf, -, e⟩ := placeOf_some h
    rw [← e]
    have := (cnt_iff f).mp (hC f hf)
    unfold I64; simp only; omega
theorem BeM.grown {C : List Fd} {S : List Vr} {Bs : List (By × Eb)} {W W' : World} {bm t : Nat} {row : Option Nat} (h : BeM C S Bs W bm t) (hg : W.grownBy W' row) (hb : some bm ≠ row) (hr : ∀ r, row = some r → ∃ o : Obj, W.heap[r]? = some o ∧ o.isCells = false) : BeM C S Bs W' bm t :=
  ⟨h.map.kept hg hb, h.key, fun e he => cells_own _ _ _ (h.blk e he) hg hr, h.best⟩
theorem BeM.gr {C : List Fd} {S : List Vr} {Bs : List (By × Eb)} {W W' : World} {bm t : Nat} (h : BeM C S Bs W bm t) (hg : Gr W W') : BeM C S Bs W' bm t := h.grown hg.grown (fun e => by cases e) (fun r e => by cases e)
theorem BeM.to {C : List Fd} {S S' : List Vr} {Bs : List (By × Eb)} {W : World} {bm t : Nat} (h : BeM C S Bs W bm t) (hb : BestS C S' (Bs.map (fun e => e.2.e))) : BeM C S' Bs W bm t := ⟨h.map, h.key, h.blk, hb⟩
theorem zeroE (w : World) : (zeroValue 32).run Try.prog w = .ok (.agg #[.string ⟨#[]⟩, .int .i64 0, .int .i64 0, .string ⟨#[]⟩, .slice none 0 0]) w := by kernel_rfl
theorem BeM.put {C : List Fd} {S : List Vr} {Bs : List (By × Eb)} {W W' : World} {bm t g : Nat} {v : Vr} (h : BeM C S Bs W bm t) (hm : MapB W' 9 KS bm (t + 1) (delP (mapV ebV Bs) v.key ++ [(v.key, ebV ⟨entV C v, g⟩)])) (hg : W.grownBy W' (some bm)) (hblk : W.heap[g]? = some (.cells (flatPl (placesOf C v)).toArray 34 (0, 0)))
    (hu : usable C v = true) (ha : hasP Bs v.key = false ∨ ∃ x, (v.key, x) ∈ Bs ∧ aheadB (entV C v) x.e = true) : BeM C (S ++ [v]) (delP Bs v.key ++ [(v.key, ⟨entV C v, g⟩)]) W' bm (t + 1) := by
  have hnc : ∀ r, some bm = some r → ∃ o : Obj, W.heap[r]? = some o ∧ o.isCells = false := fun r e => by
    injection e with e
    subst e
    obtain ⟨n, D, -, ⟨es, clock, hb, -⟩, -⟩ := h.map
    exact ⟨_, hb, rfl⟩
  refine ⟨?_, fun e he => ?_, fun e he => ?_, best_put h.key h.best hu ha _ rfl⟩
  · rw [mapV_snoc, ← delP_mapV]; exact hm
  · rcases List.mem_append.mp he with he | he
    · exact h.key e (List.mem_filter.mp he).1
    · rw [List.mem_singleton] at he; subst he; rfl
  · rcases List.mem_append.mp he with he | he
    · exact cells_own _ _ _ (h.blk e (List.mem_filter.mp he).1) hg hnc
    · rw [List.mem_singleton] at he; subst he; exact cells_own _ _ _ hblk hg hnc
theorem vers_ok {E : List Fe} (hok : ∀ x ∈ E, x.f.r.Ok) {v : Vr} (hv : v ∈ vers (cF E)) : VrOk v := by
  obtain ⟨f, hf, -, rfl⟩ := mem_vers.mp hv
  unfold cF ctE at hf
  obtain ⟨x, hx, rfl⟩ := List.mem_map.mp hf
  have h := hok x (List.mem_filter.mp hx).1
  exact ⟨h.key, h.sum, h.gen, h.size⟩
/-- the entries in memory -/
def BoV (L : List Eb) (v : Value) (base : Nat) (W : World) : Prop := OEb L v base W ∧ ∀ x ∈ L, W.heap[x.g]? = some (.cells (flatPl x.e.places).toArray 34 (0, 0))
theorem BoV.gr {L : List Eb} {v : Value} {base : Nat} {W W' : World} (h : BoV L v base W) (hg : Gr W W') : BoV L v base W' := ⟨row_below h.1 hg, fun x hx => blk_below (h.2 x hx) hg⟩
theorem out_of {C : List Fd} {S : List Vr} {Bs : List (By × Eb)} {L : List Eb} (hb : BestS C S (Bs.map (fun e => e.2.e))) (hs : ∀ v, usable C v = true → (v ∈ S ↔ v ∈ vers C)) (hp : L.Perm (Bs.map (·.2))) (ho : L.Pairwise (fun a b => ¬ b.e.key < a.e.key)) : IsOut C (L.map (fun x => x.e)) := by
  have hpe : (Bs.map (fun e => e.2.e)).Perm (L.map (fun x => x.e)) := by
    have := (hp.map (fun x : Eb => x.e)).symm
    rw [List.map_map] at this
    exact this
  have h2 := (hb.same hs).perm hpe
  refine ⟨?_, h2⟩
  have hd := h2.dist
  unfold RiseE
  rw [List.pairwise_map] at hd ⊢
  exact (ho.and hd).imp (fun {a b} h => by
    by_cases h1 : a.e.key < b.e.key
    · exact h1
    · exact absurd (bl_total h1 h.1) h.2)
theorem BeM.len {C : List Fd} {S : List Vr} {Bs : List (By × Eb)} {W : World} {bm t : Nat} (h : BeM C S Bs W bm t) {x : By × Eb} (hx : x ∈ Bs) : ∃ u ∈ S, x.2.e = entV C u := by
  obtain ⟨u, h1, -, h2, -⟩ := h.best.is x.2.e (List.mem_map.mpr ⟨x, hx, rfl⟩)
  exact ⟨u, h1, h2⟩
set_option maxRecDepth 100000 in
set_option maxHeartbeats 8000000 in
theorem best_any (E : List Fe) (v : Value) (w : World) (hE : FsV E v w) (hok : Hid (∀ x ∈ E, x.f.r.Ok)) (hlen : E.length ≤ 900) : Calls Try.prog 10 #[v] w fun e w' => ∃ (A : Option Addr) (c : Nat) (L : List Eb), e = .returned (.tuple #[.slice A L.length c, .int .i64 (mostG (cF E))]) ∧ IsOut (cF E) (L.map (fun x => x.e)) ∧ BoV L (.slice A L.length c) w.heap.size w' ∧ Gr w w' := by
  have hE0 := hE
  obtain ⟨A, c, rfl, -, -, -, -⟩ := hE0
  obtain ⟨m, hm⟩ : ∃ m, E.length = m := ⟨_, rfl⟩
  rw [hm] at hE ⊢
  have hmm := @run_makeMap Try.prog
  have hb0 : MapB (w.alloc (.map #[] 0)) 9 KS w.heap.size 0 (mapV ebV ([] : List (By × Eb))) := MapB.made w _ _
  have hg1 : Gr w (w.alloc (.map #[] 0)) := Gr.alloc _ _
  have hto := Lib.hid (tombs_any E (.slice A m c) (w.alloc (.map #[] 0)) (FsV.gr hg1 (Lib.hid hE)).out hok (by omega))
  replace hg1 := Lib.hid hg1
  replace hb0 := Lib.hid hb0
  replace hE := Lib.hid hE
  go_enter Try.func10, Try.ntmps10
  go_wp2_with (first
    | (go_at_call 18; go_must (refine hto.out.mono ?_); clear hto; rintro e w2 ⟨bt, T, rfl, hbt, hT, hTm, hg2⟩
       have hg2' : Hid (Gr w w2) := Lib.hid (hg1.out.trans hg2)
       have hb2 := Lib.hid (hb0.out.gr hg2)
       have hco := Lib.hid (copies_any E (.slice A m c) w2 (FsV.gr hg2'.out hE).out hok (by omega))
       replace hTm := Lib.hid hTm
       replace hT := Lib.hid hT
       replace hg2 := Lib.hid hg2)
    | (go_at_call 19; go_must (refine hco.out.mono ?_); clear hco; rintro e w3 ⟨bc, Cs, rfl, hbc, hCs, hg3⟩
       obtain ⟨nD, D, hnD, hown, hrelD⟩ := hCs.map
       replace hrelD := Lib.hid hrelD
       have hmapC := Lib.hid hCs.has
       replace hCs := Lib.hid hCs
       replace hg3 := Lib.hid hg3)
    | (at_range; refine wpList_range_own _ rfl _ _ rfl 58 30 lawV Try.underlying55 RV bc nD D rfl hown ?_; intro w4 hrg0 hg4 hs4))
  go_frame
  go_loopw [7] (fun _ wr => ∃ (left : Lit → Bool) (cnt tb : Nat) (S : List Vr) (Bs : List (By × Eb)), Hid (wr.ranges Try.prog 58 RV bc w3.heap.size nD D left cnt) ∧ Hid (CpM (cF E) (vers (cF E)) Cs wr w2.heap.size bc (E.length + 1)) ∧ Hid (MapB wr 9 KS bt (E.length + 1) (mapV iv T)) ∧ Hid (BeM (cF E) S Bs wr w.heap.size tb) ∧ Hid (tb + cnt ≤ E.length + 1) ∧ Hid (∀ v : Vk, v.1 ∈ vers (cF E) → (left (KV.lit v) = false ↔ v.1 ∈ S)) ∧ Hid (∀ u ∈ S, u ∈ vers (cF E)) ∧ Hid (Gr w wr)) (fun _ wr => wr.rangeLeft bc w3.heap.size)
  case atStart =>
    have hs9 := hown.size_le
    refine ⟨_, _, 0, [], [], Lib.hid hrg0, Lib.hid (hCs.out.grown hg4 (fun e => by cases e) (fun r e => by cases e)), Lib.hid ((hTm.out.gr hg3.out).kept hg4 (fun e => by cases e)), Lib.hid ⟨(hb2.out.gr hg3.out).kept hg4 (fun e => by cases e), (fun e he => by cases he), (fun e he => by cases he), BestS.nil_ _⟩, Lib.hid (by omega), Lib.hid (fun v hv => ?_), Lib.hid (fun u hu => by cases hu), Lib.hid ?_⟩
    · have h1 : has D (KV.lit v) = true := by
        rw [hrelD.out.has v, hasP_mapV, hCs.out.has v]
        exact decide_eq_true hv
      rw [h1]
      simp
    · exact Below.grown (B := w.heap.size) (hg2'.out.trans hg3.out) hg4 (Below.size (hg2'.out.trans hg3.out)) (fun k e => by cases e)
  case round =>
    obtain ⟨left, cnt, tb, S, Bs, hrg, hcp, htm, hbe, htb, hle, hsu, hg⟩ := hrel
    clear hrg0 hg4 hs4
    have hrg' := hrg.out
    go_wp2_with (at_next; refine wpList_next_ranges _ rfl (.tmp 19) rfl 58 lawV RV (fun x : Value => x) (fun x : Value => x) (fun key kl _ => ⟨key, rfl⟩) (fun v y _ => ⟨v, rfl⟩) bc w3.heap.size nD D left cnt rfl hrg' ?_ ?_)
    · intro hc0 hl0
      have hIs : Hid (∀ L : List Eb, L.Perm (Bs.map (·.2)) → L.Pairwise (fun a b => ¬ b.e.key < a.e.key) → IsOut (cF E) (L.map (fun x => x.e))) := Lib.hid (fun L h1 h2 => out_of hbe.out.best (fun v hu => ⟨hsu.out v, fun hv => (hle.out ⟨v, vers_ok hok.out hv⟩ hv).mp (hl0 _)⟩) h1 h2)
      have htb9 := htb.out
      have hbl : Bs.length ≤ 1000000 := by
        obtain ⟨n, D9, hn, ho9, hr9⟩ := hbe.out.map
        have h1 := ho9.size_le
        have h2 := hr9.size
        unfold mapV at h2
        rw [List.length_map] at h2
        omega
      obtain ⟨w5, hw5⟩ : ∃ x, wr.alloc (.cells #[.map (some w.heap.size)] 52) = x := ⟨_, rfl⟩
      have hg5 : Gr wr w5 := by rw [← hw5]; exact Gr.alloc _ _
      have hb5 : w5.heap[wr.heap.size]? = some (.cells #[.map (some w.heap.size)] 52 (0, 0)) := by rw [← hw5]; exact heap_alloc_new wr _
      have hva : Hid (Calls Try.prog 23 #[.map (some w.heap.size)] wr fun e w' => e = .returned (.func (.func 48) #[] #[.pointer (some ⟨wr.heap.size, 0, none⟩)]) ∧ w' = w5) := Lib.hid (by rw [← hw5]; exact values_any _ _)
      have hso := Lib.hid (sortedF_any wr.heap.size w.heap.size tb Bs w5 (blk_cell (j := 0) hb5 rfl) (blk_lt hb5) (hbe.out.map.gr hg5) hbl)
      have hblk5 : Hid (∀ x ∈ Bs.map (·.2), w5.heap[x.g]? = some (.cells (flatPl x.e.places).toArray 34 (0, 0))) := Lib.hid (fun x hx => by
        obtain ⟨e, he, rfl⟩ := List.mem_map.mp hx
        exact blk_below (hbe.out.blk e he) hg5)
      have hgw5 := Lib.hid (hg.out.trans hg5)
      have hE5 := FsV.gr (hgw5.out.trans (Gr.refl w5)) hE
      have hBl9 := Lib.hid hbl
      obtain ⟨Bn, hBn⟩ : ∃ n, Bs.length = n := ⟨_, rfl⟩
      rw [hBn] at hso
      replace hBn := Lib.hid hBn
      replace hw5 := Lib.hid hw5
      replace hg5 := Lib.hid hg5
      replace hb5 := Lib.hid hb5
      replace hrg' := Lib.hid hrg'
      clear hl0 htb9 hbl
      go_wp2_with (first
        | (go_at_call 23; go_must (refine hva.out.mono ?_); clear hva; rintro e wx ⟨rfl, rfl⟩)
        | (go_at_call 22; go_must (refine hso.out.mono ?_); clear hso; rintro e w6 ⟨A6, c6, L6, rfl, hp6, ho6, hr6, hg6⟩
           have hgr6 := Lib.hid (greatest_any E (.slice A m c) w6 (FsV.gr (hgw5.out.trans hg6) hE).out hok)
           replace hp6 := Lib.hid hp6; replace ho6 := Lib.hid ho6; replace hr6 := Lib.hid hr6; replace hg6 := Lib.hid hg6)
        | (go_at_call 26; go_must (refine hgr6.out.mono ?_); clear hgr6; rintro e w7 ⟨rfl, hg7⟩; replace hg7 := Lib.hid hg7))
      go_ret2
      have hl6 : L6.length = Bn := by rw [hp6.out.length_eq, List.length_map, hBn.out]
      refine ⟨A6, c6, L6, by rw [hl6]; rfl, hIs.out L6 hp6.out ho6.out, ⟨?_, fun x hx => ?_⟩, hgw5.out.trans (Gr.trans hg6.out hg7.out)⟩
      · rw [hl6]
        have h1 := row_below hr6.out hg7.out
        exact row_more h1 (Below.size hgw5.out)
      · exact blk_below (blk_below (hblk5.out x (hp6.out.mem_iff.mp hx)) hg6.out) hg7.out
    · intro x c0 kl y psx w5 cnt5 hx hlk hy hat hrg5 hlt5 hg5 hs5 hen
      obtain ⟨vv, g, hmem, rfl, rfl, rfl⟩ := copies_next hcp.out hrelD.out hrg' hx hlk hy hat
      have hvS : vv.1 ∈ vers (cF E) := by
        have h1 := (hcp.out.has vv).symm.trans ((hasP_iff Cs vv).mpr ⟨_, hmem, rfl⟩)
        exact of_decide_eq_true h1
      have hvz := vers_size (cF_cnt (E := E)) hvS
      have hnotcell : ∀ r, some w3.heap.size = some r → ∃ o : Obj, wr.heap[r]? = some o ∧ o.isCells = false := fun r e => by
        injection e with e
        subst e
        obtain ⟨es, clock, since, seen, c9, h1, h2, h3, h4, h5, h6⟩ := hrg'
        exact ⟨_, h5, rfl⟩
      have hbt3 : bt < w3.heap.size := Nat.lt_of_lt_of_le hTm.out.lt (Below.size hg3.out)
      have hw3 : w.heap.size < w3.heap.size := Nat.lt_of_lt_of_le hb2.out.lt (Below.size hg3.out)
      have hcp5 := hcp.out.grown hg5 (fun e => hrg'.ne (by injection e with e; exact e.symm)) hnotcell
      have htm5 := htm.out.kept hg5 (fun e => by injection e with e; omega)
      have hbe5 := hbe.out.grown hg5 (fun e => by injection e with e; omega) hnotcell
      have hgw5 : Gr w w5 := Below.grown (B := w.heap.size) hg.out hg5 (Below.size hg.out) (fun k e => by injection e with e; omega)
      have hnv := (hcp.out.blk _ hmem).1
      obtain ⟨⟨ky, kg, kz, ku⟩, hvo⟩ := vv
      obtain ⟨G, hGe⟩ : ∃ G : Nat, (groupsOf kz).toNat = G := ⟨_, rfl⟩
      have hns : nSlots ⟨ky, kg, kz, ku⟩ = 10 * G := by unfold nSlots; simp only; rw [hGe]
      simp only at hvz hvS
      have hG1 : 1 ≤ G := by omega
      have hG4 : G ≤ 4 := by omega
      unfold Vr.agg at hen
      simp only [hns] at hen
      unfold Vr.agg
      simp only [hns]
      have hblk5 := (hcp5.blk _ hmem).2.2
      simp only at hblk5
      have hkl : ky.length ≤ maxLen := hvo.1
      have hent : entV (cF E) ⟨ky, kg, kz, ku⟩ = ⟨ky, kg, kz, ku, placesOf (cF E) ⟨ky, kg, kz, ku⟩⟩ := rfl
      have hpln : (placesOf (cF E) ⟨ky, kg, kz, ku⟩).length = 10 * G := (placesOf_len _ _).trans hns
      obtain ⟨pl, hpl⟩ : ∃ l, placesOf (cF E) ⟨ky, kg, kz, ku⟩ = l := ⟨_, rfl⟩
      have hplI : ∀ x ∈ pl, I64 x.1 ∧ I64 x.2 := by rw [← hpl]; exact placesOf_I64 cF_cnt _
      rw [hpl] at hblk5 hent hpln
      obtain ⟨w6, hw6⟩ : ∃ x, (w5.alloc (.cells #[.string (bs ky), .int .i64 kg, .int .i64 kz, .string (bs ku)] 58)).alloc (.cells #[.string (bs ky), .int .i64 kg, .int .i64 kz, .string (bs ku), .slice (some ⟨g, 0, none⟩) (10 * G) (10 * G)] 32) = x := ⟨_, rfl⟩
      have hg6 : Gr w5 w6 := by rw [← hw6]; exact (Gr.alloc _ _).trans (Gr.alloc _ _)
      have hbx6 : w6.heap[w5.heap.size + 1]? = some (.cells #[.string (bs ky), .int .i64 kg, .int .i64 kz, .string (bs ku), .slice (some ⟨g, 0, none⟩) (10 * G) (10 * G)] 32 (0, 0)) := by
        rw [← hw6]
        have := heap_alloc_new (w5.alloc (.cells #[.string (bs ky), .int .i64 kg, .int .i64 kz, .string (bs ku)] 58)) (.cells #[.string (bs ky), .int .i64 kg, .int .i64 kz, .string (bs ku), .slice (some ⟨g, 0, none⟩) (10 * G) (10 * G)] 32)
        rwa [World.size_alloc] at this
      have hcp6 := Lib.hid (hcp5.gr hg6)
      have htm6 := htm5.gr hg6
      have hbe6 := Lib.hid (hbe5.gr hg6)
      have hrg6 := Lib.hid (hrg5.kept hg6.grown (fun e => by cases e) (fun e => by cases e))
      have hgw6 := Lib.hid (hgw5.trans hg6)
      have hblk6 := Lib.hid (blk_below hblk5 hg6)
      have hlkT := htm6.look lawS Try.underlying53 zeroI (keyS hkl)
      rw [show (Value.int .i64 0) = iv 0 from rfl, getP_mapV, hasP_mapV, show iv (getP T ky 0) = .int .i64 (getP T ky 0) from rfl] at hlkT
      have hdd := hT.out.dead (cF_cnt (E := E)) ⟨ky, kg, kz, ku⟩
      simp only at hdd
      obtain ⟨Q, hQ⟩ : ∃ Q, 10 * G = Q := ⟨_, rfl⟩
      have hfe0 := fewest_any ky kg kz ku pl (some ⟨g, 0, none⟩) (10 * G) G hG1 hG4 hpln
      rw [hQ] at hpln hbx6 hen hw6 hfe0 ⊢
      have hQm : Q ≤ 40 := by omega
      obtain ⟨be, hbeq⟩ : ∃ n, w5.heap.size + 1 = n := ⟨_, rfl⟩
      replace hvz := Lib.hid hvz
      replace hns := Lib.hid hns
      replace hGe := Lib.hid hGe
      replace hplI := Lib.hid hplI
      replace hpln := Lib.hid hpln
      replace hent := Lib.hid hent
      replace hpl := Lib.hid hpl
      replace hg6 := Lib.hid hg6
      replace hnv := Lib.hid hnv
      replace hmem := Lib.hid hmem
      replace hx := Lib.hid hx
      replace hat := Lib.hid hat
      replace hlk := Lib.hid hlk
      replace hy := Lib.hid hy
      replace hdd := Lib.hid hdd
      replace hvS := Lib.hid hvS
      replace htm6 := Lib.hid htm6
      replace hs5 := Lib.hid hs5
      replace hQ := Lib.hid hQ
      replace hfe0 := Lib.hid hfe0
      clear hcp5 htm5 hbe5 hgw5 hblk5 hrg5
      go_upto_region 7 with (fail)
      clear hen
      rw [hbeq] at hbx6
      replace hbeq := Lib.hid hbeq
      replace hw6 := Lib.hid hw6
      have hx4 := blk_cell (j := 0) hbx6 rfl
      have hle5 : Hid (∀ u : Vk, u.1 ∈ vers (cF E) → ((left (KV.lit u) && !(KV.lit u).sameKey (KV.lit ⟨⟨ky, kg, kz, ku⟩, hvo⟩)) = false ↔ u.1 ∈ S ++ [⟨ky, kg, kz, ku⟩])) := Lib.hid (fun u hu => by
        rw [List.mem_append, List.mem_singleton, ← hle.out u hu]
        by_cases he : u = ⟨⟨ky, kg, kz, ku⟩, hvo⟩
        · subst he
          have h1 : (KV.lit ⟨⟨ky, kg, kz, ku⟩, hvo⟩).sameKey (KV.lit ⟨⟨ky, kg, kz, ku⟩, hvo⟩) = true := (WideAt.sameKey_iff (KV.ok _)).mpr rfl
          rw [h1]; simp
        · have h1 : (KV.lit u).sameKey (KV.lit ⟨⟨ky, kg, kz, ku⟩, hvo⟩) = false := by
            cases h2 : (KV.lit u).sameKey (KV.lit ⟨⟨ky, kg, kz, ku⟩, hvo⟩) with
            | false => rfl
            | true => exact absurd (KV.inj ((WideAt.sameKey_iff (KV.ok _)).mp h2)) he
          rw [h1]
          have h3 : u.1 ≠ ⟨ky, kg, kz, ku⟩ := fun e => he (Subtype.ext e)
          simp [h3])
      have hsu5 : Hid (∀ u ∈ S ++ [⟨ky, kg, kz, ku⟩], u ∈ vers (cF E)) := Lib.hid (fun u hu => by
        rcases List.mem_append.mp hu with hu | hu
        · exact hsu.out u hu
        · rw [List.mem_singleton] at hu; rw [hu]; exact hvS.out)
      have hneq0 : Hid (bc ≠ w.heap.size ∧ bt ≠ w.heap.size ∧ w3.heap.size ≠ w.heap.size) := Lib.hid ⟨by have := hb2.out.lt; omega, by rw [World.size_alloc] at hbt; omega, by omega⟩
      have htb4 : Hid (tb + cnt5 ≤ E.length + 1) := Lib.hid (by have := htb.out; omega)
      have htb5 : Hid (tb + 1 + cnt5 ≤ E.length + 1) := Lib.hid (by have := htb.out; omega)
      obtain ⟨gT, hgT⟩ : ∃ z, getP T ky 0 = z := ⟨_, rfl⟩
      obtain ⟨bT, hbT⟩ : ∃ z, hasP T ky = z := ⟨_, rfl⟩
      have hdd' := hdd.out
      rw [hgT, hbT] at hdd' hlkT
      replace hgT := Lib.hid hgT
      replace hbT := Lib.hid hbT
      obtain ⟨us, hus⟩ : ∃ b, usable (cF E) ⟨ky, kg, kz, ku⟩ = b := ⟨_, rfl⟩
      obtain ⟨fw, hfw⟩ : ∃ n, fewestL pl = n := ⟨_, rfl⟩
      have husE : us = (decide (8 ≤ fw) && !(bT && decide (kg ≤ gT))) := by rw [← hus, ← hfw]; unfold usable; rw [hpl.out, ← hdd']
      clear hdd'
      rw [hfw] at hfe0
      replace hrg' := Lib.hid hrg'
      have hPl : Hid (∀ q, Gr w6 q → Pls pl (.slice (some ⟨g, 0, none⟩) Q Q) q) := Lib.hid (fun q hq => by have h1 := Pls.of_blk (blk_below hblk6.out hq) hplI.out (by rw [hpln.out]; simp only [maxLen]; omega); rw [hpln.out] at h1; exact h1)
      have hfe : Hid (∀ q, Gr w6 q → Calls Try.prog 20 #[.agg #[.string (bs ky), .int .i64 kg, .int .i64 kz, .string (bs ku), .slice (some ⟨g, 0, none⟩) Q Q]] q fun e w' => e = .returned (.int .i64 fw) ∧ Gr q w') := Lib.hid (fun q hq => hfe0.out q (hPl.out q hq))
      clear hfe0
      have hbx6' := Lib.hid hbx6
      replace hus := Lib.hid hus
      replace hfw := Lib.hid hfw
      have husE' := Lib.hid husE
      have hzb := Lib.hid (hPl.out w6 (Gr.refl _))
      go_upto_region 8 with (fail)
      clear hx4 hlkT
      go_cut [53] from 20 to 72 (fun z wq => z = .bool (!us) ∧ Hid (Gr w6 wq))
      case first =>
        have hx1 := blk_cell (j := 0) hbx6 rfl
        have hx2 := blk_cell (j := 1) hbx6 rfl
        have hx3 := blk_cell (j := 2) hbx6 rfl
        have hx4 := blk_cell (j := 3) hbx6 rfl
        have hx5 := blk_cell (j := 4) hbx6 rfl
        have hcall := hfe.out w6 (Gr.refl _)
        clear hbx6
        have huse : us = false ∧ bT = true ∧ kg ≤ gT ∨ us = decide (8 ≤ fw) ∧ ¬ (bT = true ∧ kg ≤ gT) := by
          rw [husE]
          by_cases h : bT = true ∧ kg ≤ gT
          · left; rw [h.1, decide_eq_true h.2]; simp [h.2]
          · right
            refine ⟨?_, h⟩
            cases bT with
            | false => simp
            | true => rw [decide_eq_false (fun e => h ⟨rfl, e⟩)]; simp
        clear husE
        rcases huse with ⟨rfl, rfl, hkg⟩ | ⟨rfl, hkg⟩
        · go_wp2_with fail
          go_meet
          exact ⟨by first | rfl | simp [*], Lib.hid (Gr.refl _)⟩
        · have h8 : Hid ((!decide (8 ≤ fw)) = decide ((fw : Int) < 8)) := Lib.hid (by
            rw [Bool.eq_iff_iff]
            simp only [Bool.not_eq_true', decide_eq_false_iff_not, decide_eq_true_iff]
            omega)
          cases bT with
          | true =>
            have hkg : ¬ kg ≤ gT := fun e => hkg ⟨rfl, e⟩
            go_wp2_with (go_at_call 20; go_must (refine hcall.mono ?_); clear hcall; rintro e w7 ⟨rfl, hg7⟩; have hg7' := Lib.hid hg7; clear hg7)
            go_meet
            exact ⟨by rw [h8.out], hg7'⟩
          | false =>
            clear hkg
            go_wp2_with (go_at_call 20; go_must (refine hcall.mono ?_); clear hcall; rintro e w7 ⟨rfl, hg7⟩; have hg7' := Lib.hid hg7; clear hg7)
            go_meet
            exact ⟨by rw [h8.out], hg7'⟩
      case rest =>
        obtain ⟨rfl, hg7⟩ := hcut
        clear husE
        rename World => w7
        have hrg7 := Lib.hid (hrg6.out.kept hg7.out.grown (fun e => by cases e) (fun e => by cases e))
        have hcp7 := Lib.hid (hcp6.out.gr hg7.out)
        have htm7 := Lib.hid (htm6.out.gr hg7.out)
        have hbe7 := Lib.hid (hbe6.out.gr hg7.out)
        have hgw7 := Lib.hid (hgw6.out.trans hg7.out)
        have hbx7 := Lib.hid (blk_below hbx6 hg7.out)
        have hblk7 := Lib.hid (blk_below hblk6.out hg7.out)
        clear hbx6 hbx6' hrg6 hcp6 htm6 hbe6 hgw6 hblk6 hfe
        cases us with
        | false =>
          have hrel9 := Lib.hid (hbe7.out.to (hbe7.out.best.poor hus.out))
          have hms9 : Hid (w7.rangeLeft bc w3.heap.size < wr.rangeLeft bc w3.heap.size) := Lib.hid (by rw [hrg7.out.left_eq, hrg.out.left_eq]; exact hlt5)
          go_wp2_with fail
          exact ⟨⟨_, cnt5, tb, S ++ [⟨ky, kg, kz, ku⟩], Bs, hrg7, hcp7, htm7, hrel9, htb4, hle5, hsu5, hgw7⟩, hms9.out⟩
        | true =>
          have hval : Hid (ebV ⟨entV (cF E) ⟨ky, kg, kz, ku⟩, g⟩ = .agg #[.string (bs ky), .int .i64 kg, .int .i64 kz, .string (bs ku), .slice (some ⟨g, 0, none⟩) Q Q]) := Lib.hid (by rw [hent.out]; unfold ebV; simp only; rw [hpln.out])
          have hneq : Hid (bc ≠ w.heap.size ∧ bt ≠ w.heap.size ∧ w3.heap.size ≠ w.heap.size) := hneq0
          have htb9 : tb < 1000000 := by have := htb4.out; omega
          have hlkB := hbe7.out.map.look lawS Try.underlying52 zeroE (keyS hkl)
          rw [hasP_mapV] at hlkB
          obtain ⟨bB, hbB⟩ : ∃ b, hasP Bs ky = b := ⟨_, rfl⟩
          rw [hbB] at hlkB
          have hx4 := blk_cell (j := 0) hbx7.out rfl
          cases bB with
          | false =>
            rw [getP_no (by rw [hasP_mapV]; exact hbB)] at hlkB
            replace hbB := Lib.hid hbB
            go_upto_region 10 with (fail)
            clear hlkB hx4
            obtain ⟨w8, hw8⟩ : ∃ x, w7.alloc (.cells #[.string ⟨#[]⟩, .int .i64 0, .int .i64 0, .string ⟨#[]⟩, .slice none 0 0] 32) = x := ⟨_, rfl⟩
            have hg8 : Gr w7 w8 := by rw [← hw8]; exact Gr.alloc _ _
            rw [hw8]
            replace hw8 := Lib.hid hw8
            have hrg8 := Lib.hid (hrg7.out.kept hg8.grown (fun e => by cases e) (fun e => by cases e))
            have hcp8 := Lib.hid (hcp7.out.gr hg8)
            have htm8 := Lib.hid (htm7.out.gr hg8)
            have hbe8 := Lib.hid (hbe7.out.gr hg8)
            have hgw8 := Lib.hid (hgw7.out.trans hg8)
            have hbx8 := Lib.hid (blk_below hbx7.out hg8)
            have hblk8 := Lib.hid (blk_below hblk7.out hg8)
            clear hrg7 hcp7 htm7 hbe7 hgw7 hbx7 hblk7
            clear hg8
            obtain ⟨w9, hrun9, hm9, hg9⟩ := hbe8.out.map.store lawS Try.underlying52 htb9 (keyS hkl) (.agg #[.string (bs ky), .int .i64 kg, .int .i64 kz, .string (bs ku), .slice (some ⟨g, 0, none⟩) Q Q])
            have hbn := BeM.put (v := ⟨ky, kg, kz, ku⟩) (g := g) hbe8.out (by rw [hval.out]; exact hm9) hg9 (by rw [hpl.out]; exact hblk8.out) hus.out (.inl hbB.out)
            have hne9 : Hid (bc ≠ w.heap.size ∧ bt ≠ w.heap.size ∧ w3.heap.size ≠ w.heap.size) := hneq
            have hrn := Lib.hid (hrg8.out.kept hg9 (fun e => by injection e with e; first | exact hneq.out.1 e | exact hneq.out.1 e.symm) (fun e => by injection e with e; first | exact hneq.out.2.2 e | exact hneq.out.2.2 e.symm))
            have hcn := Lib.hid (hcp8.out.grown hg9 (fun e => by injection e with e; first | exact hneq.out.1 e | exact hneq.out.1 e.symm) (fun r e => by
              injection e with e
              subst e
              obtain ⟨n, D, -, ⟨es, clock, hb, -⟩, -⟩ := hbe8.out.map
              exact ⟨_, hb, rfl⟩))
            have htn := Lib.hid (htm8.out.kept hg9 (fun e => by injection e with e; first | exact hneq.out.2.1 e | exact hneq.out.2.1 e.symm))
            have hgn : Hid (Gr w w9) := Lib.hid (Below.grown (B := w.heap.size) hgw8.out hg9 (Below.size hgw8.out) (fun k e => by injection e with e; exact Nat.le_of_eq e))
            have hmn : Hid (w9.rangeLeft bc w3.heap.size < wr.rangeLeft bc w3.heap.size) := Lib.hid (by rw [hrn.out.left_eq, hrg.out.left_eq]; exact hlt5)
            replace hbn := Lib.hid hbn
            replace hg9 := Lib.hid hg9
            clear hm9
            clear htb9
            have hx1 := blk_cell (j := 0) hbx8.out rfl
            have hx2 := blk_cell (j := 1) hbx8.out rfl
            have hx3 := blk_cell (j := 2) hbx8.out rfl
            have hx4 := blk_cell (j := 3) hbx8.out rfl
            have hx5 := blk_cell (j := 4) hbx8.out rfl
            go_wp2_with fail
            exact ⟨⟨_, cnt5, tb + 1, S ++ [⟨ky, kg, kz, ku⟩], _, hrn, hcn, htn, hbn, htb5, hle5, hsu5, hgn⟩, hmn.out⟩
          | true =>
            obtain ⟨xx, hxm⟩ := hasP_mem hbB
            replace hbB := Lib.hid hbB
            rw [getP_mem hbe7.out.map.dist (v := ebV xx) (by unfold mapV; exact List.mem_map.mpr ⟨_, hxm, rfl⟩)] at hlkB
            obtain ⟨u, huS, hue⟩ := hbe7.out.len hxm
            have huz := vers_size (cF_cnt (E := E)) (hsu.out u huS)
            obtain ⟨H, hHe⟩ : ∃ H : Nat, (groupsOf u.size).toNat = H := ⟨_, rfl⟩
            have hH1 : 1 ≤ H := by omega
            have hH4 : H ≤ 4 := by omega
            have hul : xx.e.places.length = 10 * H := by
              have h1 : xx.e = entV (cF E) u := hue
              rw [h1]
              show (placesOf (cF E) u).length = _
              rw [placesOf_len]
              unfold nSlots
              rw [hHe]
            have hulI : ∀ x ∈ xx.e.places, I64 x.1 ∧ I64 x.2 := by
              have h1 : xx.e = entV (cF E) u := hue
              rw [h1]
              exact placesOf_I64 cF_cnt _
            have hblx := hbe7.out.blk _ hxm
            have hst : Hid (aheadB (entV (cF E) ⟨ky, kg, kz, ku⟩) xx.e = false → BestS (cF E) (S ++ [⟨ky, kg, kz, ku⟩]) (Bs.map (fun e => e.2.e))) := Lib.hid (fun h => best_stay hbe7.out.key hbe7.out.best hus.out hxm h)
            have hxm9 : Hid (aheadB (entV (cF E) ⟨ky, kg, kz, ku⟩) xx.e = true → ∃ x, (ky, x) ∈ Bs ∧ aheadB (entV (cF E) ⟨ky, kg, kz, ku⟩) x.e = true) := Lib.hid (fun h => ⟨xx, hxm, h⟩)
            clear hHe huz hue huS hxm
            obtain ⟨⟨xk, xg, xz, xu, xl⟩, xb⟩ := xx
            simp only at hul hulI hblx hst hxm9
            unfold ebV at hlkB
            simp only at hlkB
            obtain ⟨R, hR⟩ : ∃ R, 10 * H = R := ⟨_, rfl⟩
            rw [hul, hR] at hlkB
            have hcm0 := compare_any ⟨ky, kg, kz, ku, pl⟩ ⟨xk, xg, xz, xu, xl⟩ (some ⟨g, 0, none⟩) (some ⟨xb, 0, none⟩) Q R G H hG1 hG4 hH1 hH4 (by rw [hQ.out]; exact hpln.out) hul
            simp only at hcm0
            rw [hQ.out, hR] at hcm0
            obtain ⟨z, hz⟩ : ∃ z, cmpE ⟨ky, kg, kz, ku, pl⟩ ⟨xk, xg, xz, xu, xl⟩ = z := ⟨_, rfl⟩
            have hah := cmpE_lt ⟨ky, kg, kz, ku, pl⟩ ⟨xk, xg, xz, xu, xl⟩
            rw [hz] at hcm0 hah
            have hah' : Hid (decide (z < 0) = aheadB (entV (cF E) ⟨ky, kg, kz, ku⟩) ⟨xk, xg, xz, xu, xl⟩) := Lib.hid (by rw [hent.out]; exact hah)
            clear hah
            obtain ⟨w8, hw8⟩ : ∃ x, w7.alloc (.cells #[.string (bs xk), .int .i64 xg, .int .i64 xz, .string (bs xu), .slice (some ⟨xb, 0, none⟩) R R] 32) = x := ⟨_, rfl⟩
            have hg8 : Gr w7 w8 := by rw [← hw8]; exact Gr.alloc _ _
            have hbo8 : w8.heap[w7.heap.size]? = some (.cells #[.string (bs xk), .int .i64 xg, .int .i64 xz, .string (bs xu), .slice (some ⟨xb, 0, none⟩) R R] 32 (0, 0)) := by rw [← hw8]; exact heap_alloc_new w7 _
            have hcm : Hid (Calls Try.prog 21 #[.agg #[.string (bs ky), .int .i64 kg, .int .i64 kz, .string (bs ku), .slice (some ⟨g, 0, none⟩) Q Q], .agg #[.string (bs xk), .int .i64 xg, .int .i64 xz, .string (bs xu), .slice (some ⟨xb, 0, none⟩) R R]] w8 fun e w' => e = .returned (.int .i64 z) ∧ Gr w8 w') := Lib.hid (hcm0 w8 (hPl.out w8 (hg7.out.trans hg8)) (by
              have h1 := Pls.of_blk (blk_below hblx hg8) hulI (by rw [hul]; simp only [maxLen]; omega)
              rw [hul, hR] at h1
              exact h1))
            clear hcm0 hblx hulI hul hH1 hH4
            replace hR := Lib.hid hR
            replace hz := Lib.hid hz
            have hrg8 := Lib.hid (hrg7.out.kept hg8.grown (fun e => by cases e) (fun e => by cases e))
            have hcp8 := Lib.hid (hcp7.out.gr hg8)
            have htm8 := Lib.hid (htm7.out.gr hg8)
            have hbe8 := Lib.hid (hbe7.out.gr hg8)
            have hgw8 := Lib.hid (hgw7.out.trans hg8)
            have hbx8 := Lib.hid (blk_below hbx7.out hg8)
            have hblk8 := Lib.hid (blk_below hblk7.out hg8)
            clear hrg7 hcp7 htm7 hbe7 hgw7 hbx7 hblk7
            clear hg8
            go_upto_region 10 with (fail)
            replace hw8 := Lib.hid hw8
            clear hlkB hx4
            have hx1 := blk_cell (j := 0) hbx8.out rfl
            have hx2 := blk_cell (j := 1) hbx8.out rfl
            have hx3 := blk_cell (j := 2) hbx8.out rfl
            have hx4 := blk_cell (j := 3) hbx8.out rfl
            have hx5 := blk_cell (j := 4) hbx8.out rfl
            have ho1 := blk_cell (j := 0) hbo8 rfl
            have ho2 := blk_cell (j := 1) hbo8 rfl
            have ho3 := blk_cell (j := 2) hbo8 rfl
            have ho4 := blk_cell (j := 3) hbo8 rfl
            have ho5 := blk_cell (j := 4) hbo8 rfl
            replace hbo8 := Lib.hid hbo8
            by_cases hz0 : z < 0
            · have hst9 := hxm9.out (by rw [← hah'.out]; exact decide_eq_true hz0)
              go_wp2_with (first
                | (go_at_call 21; go_must (refine hcm.out.mono ?_); clear hcm; rintro e wc ⟨rfl, hgc⟩
                   clear hx1 hx2 hx3 hx4 hx5 ho1 ho2 ho3 ho4 ho5
                   have hrgc := Lib.hid (hrg8.out.kept hgc.grown (fun e => by cases e) (fun e => by cases e))
                   have hcpc := Lib.hid (hcp8.out.gr hgc)
                   have htmc := Lib.hid (htm8.out.gr hgc)
                   have hbec := Lib.hid (hbe8.out.gr hgc)
                   have hgwc := Lib.hid (hgw8.out.trans hgc)
                   have hbxc := Lib.hid (blk_below hbx8.out hgc)
                   have hblkc := Lib.hid (blk_below hblk8.out hgc)
                   clear hrg8 hcp8 htm8 hbe8 hgw8 hbx8 hblk8
                   have hx1 := blk_cell (j := 0) hbxc.out rfl
                   have hx2 := blk_cell (j := 1) hbxc.out rfl
                   have hx3 := blk_cell (j := 2) hbxc.out rfl
                   have hx4 := blk_cell (j := 3) hbxc.out rfl
                   have hx5 := blk_cell (j := 4) hbxc.out rfl
                   obtain ⟨w9, hrun9, hm9, hg9⟩ := hbec.out.map.store lawS Try.underlying52 htb9 (keyS hkl) (.agg #[.string (bs ky), .int .i64 kg, .int .i64 kz, .string (bs ku), .slice (some ⟨g, 0, none⟩) Q Q])
                   have hbn := BeM.put (v := ⟨ky, kg, kz, ku⟩) (g := g) hbec.out (by rw [hval.out]; exact hm9) hg9 (by rw [hpl.out]; exact hblkc.out) hus.out (.inr hst9)
                   have hne9 : Hid (bc ≠ w.heap.size ∧ bt ≠ w.heap.size ∧ w3.heap.size ≠ w.heap.size) := hneq
                   have hrn := Lib.hid (hrgc.out.kept hg9 (fun e => by injection e with e; first | exact hneq.out.1 e | exact hneq.out.1 e.symm) (fun e => by injection e with e; first | exact hneq.out.2.2 e | exact hneq.out.2.2 e.symm))
                   have hcn := Lib.hid (hcpc.out.grown hg9 (fun e => by injection e with e; first | exact hneq.out.1 e | exact hneq.out.1 e.symm) (fun r e => by
                     injection e with e
                     subst e
                     obtain ⟨n, D, -, ⟨es, clock, hb, -⟩, -⟩ := hbec.out.map
                     exact ⟨_, hb, rfl⟩))
                   have htn := Lib.hid (htmc.out.kept hg9 (fun e => by injection e with e; first | exact hneq.out.2.1 e | exact hneq.out.2.1 e.symm))
                   have hgn : Hid (Gr w w9) := Lib.hid (Below.grown (B := w.heap.size) hgwc.out hg9 (Below.size hgwc.out) (fun k e => by injection e with e; exact Nat.le_of_eq e))
                   have hmn : Hid (w9.rangeLeft bc w3.heap.size < wr.rangeLeft bc w3.heap.size) := Lib.hid (by rw [hrn.out.left_eq, hrg.out.left_eq]; exact hlt5)
                   replace hbn := Lib.hid hbn
                   replace hg9 := Lib.hid hg9
                   clear hm9
                   replace hgc := Lib.hid hgc))
              exact ⟨⟨_, cnt5, tb + 1, S ++ [⟨ky, kg, kz, ku⟩], _, hrn, hcn, htn, hbn, htb5, hle5, hsu5, hgn⟩, hmn.out⟩
            · have hst9 := Lib.hid (hst.out (by rw [← hah'.out]; exact decide_eq_false hz0))
              go_wp2_with (go_at_call 21; go_must (refine hcm.out.mono ?_); clear hcm; rintro e wc ⟨rfl, hgc⟩
                           clear hx1 hx2 hx3 hx4 hx5 ho1 ho2 ho3 ho4 ho5
                           have hrgc := Lib.hid (hrg8.out.kept hgc.grown (fun e => by cases e) (fun e => by cases e))
                           have hcpc := Lib.hid (hcp8.out.gr hgc)
                           have htmc := Lib.hid (htm8.out.gr hgc)
                           have hbec := Lib.hid (hbe8.out.gr hgc)
                           have hgwc := Lib.hid (hgw8.out.trans hgc)
                           have hbxc := Lib.hid (blk_below hbx8.out hgc)
                           have hblkc := Lib.hid (blk_below hblk8.out hgc)
                           clear hrg8 hcp8 htm8 hbe8 hgw8 hbx8 hblk8
                           have hrel9 := Lib.hid (hbec.out.to hst9.out)
                           have hms9 : Hid (wc.rangeLeft bc w3.heap.size < wr.rangeLeft bc w3.heap.size) := Lib.hid (by rw [hrgc.out.left_eq, hrg.out.left_eq]; exact hlt5)
                           replace hgc := Lib.hid hgc)
              exact ⟨⟨_, cnt5, tb, S ++ [⟨ky, kg, kz, ku⟩], Bs, hrgc, hcpc, htmc, hrel9, htb4, hle5, hsu5, hgwc⟩, hms9.out⟩
end Go.Proofs.Ytiliggleplpjbaa
