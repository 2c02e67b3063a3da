/- A cartridge: its state, what its methods come to. -/
import Derived.Test.YtfjhdcppehfiiaaTyp
import Derived.Test.YtfjhdcppehfiiaaBytes2
import Derived.Test.YtfjhdcppehfiiaaTab
import Derived.Test.YtfjhdcppehfiiaaClone
import Derived.BigRegion
import Derived.Outline
import Derived.WalkSpells
import Derived.Deep.DeepMust
namespace Go.Proofs.Ytfjhdcppehfiiaa
set_option linter.unusedVariables false
set_option linter.unusedSimpArgs false
open Go Go.RowKit

/-- a cartridge's state -/
structure CS where
  recs : List (List UInt8 × Bool)
  most : Nat
  lost : Bool
def CS.append (s : CS) (b : List UInt8) : Int × Int × CS :=
  if b.length < 1 ∨ 256 < b.length then (0, 1, s) else if s.lost = true then (0, 9, s) else if s.most ≤ s.recs.length then (0, 7, s) else (s.recs.length, 0, { s with recs := s.recs ++ [(b, false)] })
def CS.read (s : CS) (p : Int) : List UInt8 × Int :=
  if s.lost = true then ([], 9) else if p < 0 ∨ (s.recs.length : Int) ≤ p then ([], 5) else if (s.recs.getD p.toNat ([], false)).2 = true then ([], 10) else ((s.recs.getD p.toNat ([], false)).1, 0)
def CS.rot (s : CS) (p : Int) : Bool × CS :=
  if s.lost = true ∨ p < 0 ∨ (s.recs.length : Int) ≤ p then (false, s) else if (s.recs.getD p.toNat ([], false)).2 = true then (false, s) else (true, { s with recs := s.recs.set p.toNat ((s.recs.getD p.toNat ([], false)).1, true) })
def CS.tear (s : CS) (n : Int) : Bool × CS :=
  if s.lost = true ∨ s.recs.length = 0 then (false, s) else if n < 0 ∨ ((s.recs.getD (s.recs.length - 1) ([], false)).1.length : Int) ≤ n then (false, s) else (true, { s with recs := s.recs.set (s.recs.length - 1) ((s.recs.getD (s.recs.length - 1) ([], false)).1.take n.toNat, (s.recs.getD (s.recs.length - 1) ([], false)).2) })
def CS.lose (s : CS) : Bool × CS := if s.lost = true then (false, s) else (true, { s with lost := true })
def CS.room (s : CS) : Int := if s.lost = true then 0 else (s.most : Int) - s.recs.length
structure CS.Ok (s : CS) : Prop where
  recs : s.recs.length ≤ s.most
  most : s.most ≤ 1024
  len : ∀ r ∈ s.recs, r.1.length ≤ 256
/-- v is a slice of records of the call's own; all of it lies from lo on and below hi -/
def RecsX (w : World) (lo hi : Nat) (v : Value) (l : List (List UInt8 × Bool)) (xs : List Value) : Prop :=
  w.ownsRow lo 66 2 v l.length xs ∧ (∀ k, v.ownBlock = some k → k < hi) ∧
    ∀ i r, l[i]? = some r → ∃ u, xs[i * 2]? = some u ∧ xs[i * 2 + 1]? = some (.bool r.2) ∧ OB w lo u r.1 ∧ ∀ k, u.ownBlock = some k → k < hi
def Recs (w : World) (lo hi : Nat) (v : Value) (l : List (List UInt8 × Bool)) : Prop := ∃ xs, RecsX w lo hi v l xs
/-- block g is a cartridge in this state -/
def Ct (w : World) (lo hi g : Nat) (s : CS) : Prop :=
  ∃ v, w.heap[g]? = some (.cells #[v, .int .i64 s.most, .bool s.lost] 64 (0, 0)) ∧ lo ≤ g ∧ g < hi ∧ hi ≤ w.heap.size ∧ Recs w lo hi v s.recs ∧ s.Ok
section
variable {w w' : World} {lo hi hi' g : Nat} {s : CS} {v : Value} {l : List (List UInt8 × Bool)}
theorem RecsX.keep {xs : List Value} (h : RecsX w lo hi v l xs) (hk : ∀ k, lo ≤ k → k < hi → w'.heap[k]? = w.heap[k]?) : RecsX w' lo hi v l xs := by
  obtain ⟨h1, h2, h3⟩ := h
  refine ⟨row_keep h1 (fun k e => hk k (h1.lt k e).1 (h2 k e)), h2, fun i r hr => ?_⟩
  obtain ⟨u, a, b, c, d⟩ := h3 i r hr
  exact ⟨u, a, b, row_keep c (fun k e => hk k (c.lt k e).1 (d k e)), d⟩
theorem Recs.keep (h : Recs w lo hi v l) (hk : ∀ k, lo ≤ k → k < hi → w'.heap[k]? = w.heap[k]?) : Recs w' lo hi v l := by
  obtain ⟨xs, h⟩ := h
  exact ⟨xs, h.keep hk⟩
theorem Recs.more (h : Recs w lo hi v l) (hh : hi ≤ hi') : Recs w lo hi' v l := by
  obtain ⟨xs, h1, h2, h3⟩ := h
  refine ⟨xs, h1, fun k e => by have := h2 k e; omega, fun i r hr => ?_⟩
  obtain ⟨u, a, b, c, d⟩ := h3 i r hr
  exact ⟨u, a, b, c, fun k e => by have := d k e; omega⟩
theorem Recs.form (h : Recs w lo hi v l) : ∃ A c, v = .slice A l.length c ∧ l.length ≤ c ∧ c ≤ maxLen := by
  obtain ⟨xs, h1, -⟩ := h
  exact row_form h1
theorem Recs.tchg {lo' : Nat} {ts : List TypeId} (h : Recs w lo hi v l) (hc : TChg lo' ts w w') (h1 : 66 ∉ ts) (h2 : 5 ∉ ts) : Recs w' lo hi v l := by
  obtain ⟨xs, a1, a2, a3⟩ := h
  refine ⟨xs, row_tchg a1 hc h1, a2, fun i r hr => ?_⟩
  obtain ⟨u, a, b, c, d⟩ := a3 i r hr
  exact ⟨u, a, b, row_tchg c hc h2, d⟩
theorem Ct.keep (h : Ct w lo hi g s) (hz : w.heap.size ≤ w'.heap.size) (hk : ∀ k, lo ≤ k → k < hi → w'.heap[k]? = w.heap[k]?) : Ct w' lo hi g s := by
  obtain ⟨v, a, b, c, d, e, f⟩ := h
  exact ⟨v, (hk g b c).trans a, b, c, by omega, e.keep hk, f⟩
theorem Ct.below (h : Ct w lo hi g s) (hb : Below w.heap.size w w') : Ct w' lo hi g s := h.keep hb.size (fun k _ hk => by
  obtain ⟨v, a, b, c, d, e, f⟩ := h
  exact hb.block k (by omega))
theorem Ct.set (h : Ct w lo hi g s) (p : Addr) (hp : p.block < lo ∨ hi ≤ p.block) (u : Value) : Ct (w.setCell p u) lo hi g s :=
  h.keep (by simp [World.setCell]) (fun k h1 h2 => Below.heap_setCell _ _ _ _ (by omega))
theorem Ct.more (h : Ct w lo hi g s) (h1 : hi ≤ hi') (h2 : hi' ≤ w.heap.size) : Ct w lo hi' g s := by
  obtain ⟨v, a, b, c, d, e, f⟩ := h
  exact ⟨v, a, b, by omega, h2, e.more h1, f⟩
theorem Ct.tchg {lo' : Nat} {ts : List TypeId} (h : Ct w lo hi g s) (hc : TChg lo' ts w w') (h0 : 64 ∉ ts) (h1 : 66 ∉ ts) (h2 : 5 ∉ ts) : Ct w' lo hi g s := by
  obtain ⟨v, a, b, c, d, e, f⟩ := h
  exact ⟨v, hc.block a h0, b, c, Nat.le_trans d hc.size, e.tchg hc h1 h2, f⟩
theorem Ct.ok (h : Ct w lo hi g s) : s.Ok := by obtain ⟨v, a, b, c, d, e, f⟩ := h; exact f
theorem Ct.bounds (h : Ct w lo hi g s) : lo ≤ g ∧ g < hi ∧ hi ≤ w.heap.size := by obtain ⟨v, a, b, c, d, e, f⟩ := h; exact ⟨b, c, d⟩
theorem Ct.drewN (h : Ct w lo hi g s) (n : Nat) : Ct (w.drewN n) lo hi g s := h
/-- what the walk reads of a cartridge -/
theorem Ct.open_ (h : Ct w lo hi g s) : ∃ A c, Recs w lo hi (.slice A s.recs.length c) s.recs ∧ s.recs.length ≤ c ∧ c ≤ maxLen ∧ w.heap[g]? = some (.cells #[.slice A s.recs.length c, .int .i64 s.most, .bool s.lost] 64 (0, 0)) ∧
    w.cell? ⟨g, 0, none⟩ = some (.slice A s.recs.length c) ∧ w.cell? ⟨g, 1, none⟩ = some (.int .i64 s.most) ∧ w.cell? ⟨g, 2, none⟩ = some (.bool s.lost) := by
  obtain ⟨v, a, b, c, d, e, f⟩ := h
  obtain ⟨A, n, rfl, h1, h2⟩ := e.form
  exact ⟨A, n, e, h1, h2, a, blk_cell a rfl, blk_cell a rfl, blk_cell a rfl⟩
theorem Ct.free (h : Ct w lo hi g s) (j : Nat) : w.frozen? ⟨g, j, none⟩ = false := by
  obtain ⟨v, a, -⟩ := h
  exact blk_free a j
theorem Recs.set_blk {cs : Array Value} {T : TypeId} (h : Recs w lo hi v l) (hh : w.heap[g]? = some (.cells cs T (0, 0))) (h1 : T ≠ 66) (h2 : T ≠ 5) (j : Nat) (u : Value) : Recs (w.setCell ⟨g, j, none⟩ u) lo hi v l := by
  obtain ⟨xs, a1, a2, a3⟩ := h
  refine ⟨xs, row_set_other a1 _ _ _ (row_ne a1 hh h1), a2, fun i r hr => ?_⟩
  obtain ⟨u, a, b, c, d⟩ := a3 i r hr
  exact ⟨u, a, b, row_set_other c _ _ _ (row_ne c hh h2), d⟩
theorem Ct.set0 {v0 : Value} {l' : List (List UInt8 × Bool)} (hh : w.heap[g]? = some (.cells #[v0, .int .i64 s.most, .bool s.lost] 64 (0, 0))) (hg : lo ≤ g) (hr : Recs w lo w.heap.size v l') (hok : CS.Ok { s with recs := l' }) : Ct (w.setCell ⟨g, 0, none⟩ v) lo w.heap.size g { s with recs := l' } :=
  ⟨v, blk_set hh 0 v, hg, blk_lt hh, by simp [World.setCell], hr.set_blk hh (by decide) (by decide) 0 v, hok⟩
theorem Ct.set2 (h : Ct w lo hi g s) (z : Bool) : Ct (w.setCell ⟨g, 2, none⟩ (.bool z)) lo hi g { s with lost := z } := by
  obtain ⟨v, a, b, c, d, e, f⟩ := h
  obtain ⟨xs, h1, h2, h3⟩ := e
  refine ⟨v, blk_set a 2 _, b, c, by simp [World.setCell]; exact d, ⟨xs, row_set_other h1 _ _ _ (row_ne h1 a (by decide)), h2, fun i r hr => ?_⟩, ⟨f.recs, f.most, f.len⟩⟩
  obtain ⟨u, a1, a2, a3, a4⟩ := h3 i r hr
  exact ⟨u, a1, a2, row_set_other a3 _ _ _ (row_ne a3 a (by decide)), a4⟩
/-- one record more -/
theorem Recs.push {v' : Value} {b : List UInt8} {z : Bool} {u : Value} {xs : List Value} (h : RecsX w lo hi v l xs) (hu : OB w lo u b) (hg : w.grownBy w' v.ownBlock) (h4 : w'.ownsRow lo 66 2 v' (l.length + 1) (xs ++ [u, .bool z])) (hu2 : ∀ k, u.ownBlock = some k → k < w'.heap.size) (hh : hi ≤ w'.heap.size) :
    Recs w' lo w'.heap.size v' (l ++ [(b, z)]) := by
  obtain ⟨h1, h2, h3⟩ := h
  have hx : xs.length = l.length * 2 := h1.1
  refine ⟨xs ++ [u, .bool z], by rw [List.length_append]; exact h4, fun k e => (h4.lt k e).2, fun i r hr => ?_⟩
  by_cases hi' : i < l.length
  · rw [List.getElem?_append_left hi'] at hr
    obtain ⟨u', a, b', c, d⟩ := h3 i r hr
    refine ⟨u', by rw [List.getElem?_append_left (by omega)]; exact a, by rw [List.getElem?_append_left (by omega)]; exact b', World.ownsRow.kept c hg ?_, fun k e => by have := d k e; omega⟩
    rcases hb : u'.ownBlock with _ | k
    · exact .inl rfl
    · exact .inr (fun e => row_ne2 h1 c (by decide) k hb e.symm)
  · have hil : i = l.length := by
      have := (List.getElem?_eq_some_iff.1 hr).1
      rw [List.length_append] at this
      simp at this
      omega
    subst hil
    rw [List.getElem?_append_right (Nat.le_refl _)] at hr
    simp at hr
    subst hr
    refine ⟨u, ?_, ?_, World.ownsRow.kept hu hg ?_, hu2⟩
    · rw [List.getElem?_append_right (by omega)]; simp [hx]
    · rw [List.getElem?_append_right (by omega)]; simp [hx]
    · rcases hb : u.ownBlock with _ | k
      · exact .inl rfl
      · exact .inr (fun e => row_ne2 h1 hu (by decide) k hb e.symm)
end
theorem info_rec : (Try.prog.info? 66).map (fun i => (i.zero, i.size, i.bytes)) = some (some (.agg #[.slice none 0 0, .bool false]), 2, 32) := by kernel_rfl
theorem Reads.lit2 (w : World) (a b : Value) (t : TypeId) (B : Nat) (hB : w.heap.size < B) : Reads (w.alloc (.cells #[a, b] t)) B 2 (some ⟨w.heap.size, 0, none⟩) 1 [a, b] :=
  ⟨rfl, fun _ => ⟨_, rfl, hB, World.news_of_block (heap_alloc_new w _) |> fun hh j u hu => hh j u hu⟩⟩
set_option maxRecDepth 10000 in
theorem cnew_any (z : Int) (hz : I64 z) (w : World) :
    Calls Try.prog 34 #[.int .i64 z] w fun e w' => e = .returned (.pointer (some ⟨w.heap.size, 0, none⟩)) ∧ Ct w' w.heap.size w'.heap.size w.heap.size ⟨[], (min (max z 0) 1024).toNat, false⟩ ∧ Below w.heap.size w w' := by
  obtain ⟨m, hm⟩ : ∃ m : Nat, (m : Int) = min (max z 0) 1024 := ⟨(min (max z 0) 1024).toNat, by omega⟩
  have hm2 : (min (max z 0) 1024).toNat = m := by omega
  rw [hm2]
  have hm3 : m ≤ 1024 := by omega
  replace hm := Lib.hid hm
  replace hm2 := Lib.hid hm2
  rcases (by have := hm.out; omega : (z < 0 ∧ (m : Int) = 0) ∨ (0 ≤ z ∧ z ≤ 1024 ∧ (m : Int) = z) ∨ (1024 < z ∧ (m : Int) = 1024)) with ⟨h1, hme⟩ | ⟨h1, h2, hme⟩ | ⟨h1, hme⟩
  all_goals
    replace hme := Lib.hid hme
    go_enter Try.func34, Try.ntmps34
    go_wp2
    try rw [← hme.out]
    go_ret
    exact ⟨rfl, ⟨_, by first | exact heap_alloc_new w _ | (rw [hme.out]; exact heap_alloc_new w _), Nat.le_refl _, by simp, Nat.le_refl _, ⟨[], World.ownsRow_nil _ _ _ 2, fun k h => (by cases h), fun i r h => (by cases h)⟩, ⟨Nat.zero_le _, hm3, fun r h => (by cases h)⟩⟩, (Below.refl _ _).alloc (Nat.le_refl _) _⟩
set_option maxRecDepth 10000 in
theorem size_any (lo hi g : Nat) (s : CS) (w : World) (h : Ct w lo hi g s) :
    Calls Try.prog 26 #[.pointer (some ⟨g, 0, none⟩)] w fun e w' => e = .returned (.int .i64 s.recs.length) ∧ w' = w := by
  obtain ⟨A, c, -, hc, hm, -, c0, -, -⟩ := h.open_
  have := h.ok.recs
  have := h.ok.most
  replace h := Lib.hid h
  go_enter Try.func26, Try.ntmps26
  go_wp2
  go_ret
  exact ⟨rfl, rfl⟩
set_option maxRecDepth 10000 in
theorem at_none (lo hi g : Nat) (s : CS) (p : Int) (hp : I64 p) (hout : p < 0 ∨ (s.recs.length : Int) ≤ p) (w : World) (h : Ct w lo hi g s) :
    Calls Try.prog 29 #[.pointer (some ⟨g, 0, none⟩), .int .i64 p] w fun e w' => e = .returned (.pointer none) ∧ w' = w := by
  obtain ⟨A, c, -, hc, hm, -, c0, -, -⟩ := h.open_
  have := h.ok.recs
  have := h.ok.most
  replace h := Lib.hid h
  rcases hout with hout | hout
  · go_enter Try.func29, Try.ntmps29
    go_wp2
    go_ret
    exact ⟨rfl, rfl⟩
  · by_cases h0 : p < 0
    · go_enter Try.func29, Try.ntmps29
      go_wp2
      go_ret
      exact ⟨rfl, rfl⟩
    · go_enter Try.func29, Try.ntmps29
      go_wp2
      go_ret
      exact ⟨rfl, rfl⟩
set_option maxRecDepth 10000 in
theorem at_some (lo hi g b c : Nat) (s : CS) (p : Int) (i : Nat) (hpi : p = i) (hlt : i < s.recs.length) (w : World) (h : Ct w lo hi g s) (h0 : w.cell? ⟨g, 0, none⟩ = some (.slice (some ⟨b, 0, none⟩) s.recs.length c)) :
    Calls Try.prog 29 #[.pointer (some ⟨g, 0, none⟩), .int .i64 p] w fun e w' => e = .returned (.pointer (some ⟨b, i * 2, none⟩)) ∧ w' = w := by
  have := h.ok.recs
  have := h.ok.most
  subst hpi
  replace h := Lib.hid h
  go_enter Try.func29, Try.ntmps29
  go_wp2
  go_ret
  exact ⟨rfl, rfl⟩
set_option maxHeartbeats 1000000 in
set_option maxRecDepth 10000 in
theorem add_any (lo hi g : Nat) (s : CS) (u : Value) (l : List UInt8) (b : Bool) (w : World) (h : Ct w lo hi g s) (hu : OB w lo u l) (hl : l.length ≤ 256) (hroom : s.recs.length < s.most) :
    Calls Try.prog 50 #[.pointer (some ⟨g, 0, none⟩), .agg #[u, .bool b]] w fun e w' => e = .returned (.int .i64 s.recs.length) ∧ Ct w' lo w'.heap.size g { s with recs := s.recs ++ [(l, b)] } ∧ TChg lo [64, 66] w w' := by
  obtain ⟨i0, hi0, hz0, hz1, hz2⟩ := info_parts info_rec
  obtain ⟨A, c, hrecs, hc, hm, hh, c0, -, -⟩ := h.open_
  obtain ⟨xs, hrow, hlt, hall⟩ := hrecs
  obtain ⟨n, hn⟩ : ∃ n, s.recs.length = n := ⟨_, rfl⟩
  have hrl := h.ok.recs
  have hmo := h.ok.most
  have hgb := h.bounds
  have hok := Lib.hid h.ok
  rw [hn] at hroom hc hh c0 hrow hlt hrl
  have hrecs0 : Hid (RecsX w lo hi (.slice A n c) s.recs xs) := Lib.hid ⟨by rw [hn]; exact hrow, hlt, hall⟩
  rw [hn]
  have hone : ∀ x ∈ [u, Value.bool b], x.oneCell' = true := fun x hx => by
    obtain ⟨A1, c1, rfl, -⟩ := hu.form
    simp at hx
    rcases hx with rfl | rfl <;> rfl
  have hn1 := Lib.hid (row_ne hrow hh (by decide))
  have hn2 : Hid ((Value.slice A n c).ownBlock ≠ some w.heap.size) := Lib.hid (fun e => by have := hlt _ e; omega)
  have k0 : (w.alloc (.cells #[u, .bool b] 66)).cell? ⟨w.heap.size, 0, none⟩ = some u := blk_cell (heap_alloc_new w _) rfl
  have k1 : (w.alloc (.cells #[u, .bool b] 66)).cell? ⟨w.heap.size, 1, none⟩ = some (.bool b) := blk_cell (heap_alloc_new w _) rfl
  have hba := (Below.refl w.heap.size w).alloc (Nat.le_refl _) (.cells #[u, .bool b] 66)
  have hws : (w.alloc (.cells #[u, .bool b] 66)).heap.size = w.heap.size + 1 := by simp
  replace h := Lib.hid h
  replace hone := Lib.hid hone
  replace hrow := Lib.hid hrow
  replace hu := Lib.hid hu
  replace hall := Lib.hid hall
  replace hlt := Lib.hid hlt
  replace hh := Lib.hid hh
  replace hn := Lib.hid hn
  go_enter Try.func50, Try.ntmps50
  go_wp2_with fail
  obtain ⟨w1, hw1⟩ : ∃ w1, w.alloc (.cells #[u, .bool b] 66) = w1 := ⟨_, rfl⟩
  rw [hw1] at k0 k1 hba hws ⊢
  obtain ⟨N, hN⟩ : ∃ N, w.heap.size = N := ⟨_, rfl⟩
  rw [hN] at k0 k1 hws hgb hn2 ⊢
  have hh1 := (hba.block g (by omega)).trans hh.out
  have hrow1 := Lib.hid (row_below hrow.out hba)
  have hu1 := Lib.hid (row_below hu.out hba)
  replace c0 := blk_cell (j := 0) hh1 rfl
  have hgl : g < w1.heap.size := by omega
  have hgn : N < w1.heap.size := by omega
  have hsrc : Hid (Reads (w1.alloc (.cells #[u, .bool b] 66)) (N + 2) 2 (some ⟨N + 1, 0, none⟩) 1 [u, .bool b]) := Lib.hid (by
    have := Reads.lit2 w1 u (.bool b) 66 (N + 2) (by omega)
    rw [hws] at this
    exact this)
  have hk1 : Hid (∀ k, lo ≤ k → k < hi → w1.heap[k]? = w.heap[k]?) := Lib.hid (fun k _ hk => hba.block k (by omega))
  have hhW : Hid ((w1.alloc (.cells #[u, .bool b] 66)).drew.heap[g]? = some (.cells #[.slice A n c, .int .i64 s.most, .bool s.lost] 64 (0, 0))) := Lib.hid (blk_alloc hh1 _)
  have hrecsW : Hid (RecsX (w1.alloc (.cells #[u, .bool b] 66)).drew lo hi (.slice A n c) s.recs xs) := Lib.hid ((hrecs0.out.keep hk1.out).keep (fun k _ hk => Below.heap_alloc w1 (.cells #[u, .bool b] 66) k (by omega)))
  replace hba := Lib.hid hba
  replace hh1 := Lib.hid hh1
  refine wpR_region (Upd (fun k => (Value.slice A n c).ownBlock = some k)) 10 (by kernel_rfl) ?_
  refine wpR_take (i := 0) (v := ?_) (Upd.road _) (some 5) rfl (by kernel_rfl) (by kernel_rfl) (by kernel_rfl) (by kernel_rfl) (by kernel_rfl) (fun _ _ _ h => h) (by kernel_rfl) (fun w' hw' => ?_) ?_
  rotate_left
  · go_simp; with_reducible rfl
  simp only [Act.put, List.setIfInBounds_toArray, List.set_cons_zero, List.set_cons_succ]
  refine wpR_take (i := 1) (v := ?_) (Upd.road _) (some 6) rfl (by kernel_rfl) (by kernel_rfl) (by kernel_rfl) (by kernel_rfl) (by kernel_rfl) (fun _ _ _ h => h) (by kernel_rfl) (fun w' hw' => ?_) ?_
  rotate_left
  · go_simp; with_reducible rfl
  simp only [Act.put, List.setIfInBounds_toArray, List.set_cons_zero, List.set_cons_succ]
  refine wpR_take (i := 2) (v := ?_) (Upd.road _) (some 7) rfl (by kernel_rfl) (by kernel_rfl) (by kernel_rfl) (by kernel_rfl) (by kernel_rfl) (fun _ _ _ h => h) (by kernel_rfl) (fun w' hw' => ?_) ?_
  rotate_left
  · go_simp; with_reducible rfl
  simp only [Act.put, List.setIfInBounds_toArray, List.set_cons_zero, List.set_cons_succ]
  refine wpR_take (i := 3) (v := ?_) (Upd.road _) (some 8) rfl (by kernel_rfl) (by kernel_rfl) (by kernel_rfl) (by kernel_rfl) (by kernel_rfl) (fun _ _ _ h => h) (by kernel_rfl) (fun w' hw' => ?_) ?_
  rotate_left
  · go_simp; with_reducible rfl
  simp only [Act.put, List.setIfInBounds_toArray, List.set_cons_zero, List.set_cons_succ]
  refine wpR_take (i := 4) (v := ?_) (Upd.road _) (some 9) rfl (by kernel_rfl) (by kernel_rfl) (by kernel_rfl) (by kernel_rfl) (by kernel_rfl) (fun _ _ _ h => h) (by kernel_rfl) (fun w' hw' => ?_) ?_
  rotate_left
  · have q := (hw'.cell (p := ⟨g, 0, none⟩) hgl hn1.out).trans c0; go_simp; with_reducible rfl
  simp only [Act.put, List.setIfInBounds_toArray, List.set_cons_zero, List.set_cons_succ]
  refine wpR_take (i := 5) (v := ?_) (Upd.road _) (some 10) rfl (by kernel_rfl) (by kernel_rfl) (by kernel_rfl) (by kernel_rfl) (by kernel_rfl) (fun _ _ _ h => h) (by kernel_rfl) (fun w' hw' => ?_) ?_
  rotate_left
  · have q1 := (hw'.cell (p := ⟨N, 0, none⟩) hgn hn2.out).trans k0; have q2 := (hw'.cell (p := ⟨N, 1, none⟩) hgn hn2.out).trans k1; go_simp; with_reducible rfl
  simp only [Act.put, List.setIfInBounds_toArray, List.set_cons_zero, List.set_cons_succ]
  refine wpR_one 6 rfl (by kernel_rfl) (by kernel_rfl) (fun K hK => ?_)
  go_simp
  refine hK _ _ (fun _ => Upd.of_below ((Below.refl _ _).alloc (Nat.le_refl _) _)) ?_
  clear hK K
  try simp only [Act.put, List.setIfInBounds_toArray, List.set_cons_zero, List.set_cons_succ]
  refine wpR_one 7 rfl (by kernel_rfl) (by kernel_rfl) (fun K hK => ?_)
  refine wp_append_any _ (.tmp 9) (.tmp 11) 60 rfl lo 66 i0 _ 2 32 Try.underlying60 hi0 hz0 hz1 hz2 rfl (by omega) (.slice A n c) n xs rfl (hrow1.out.alloc _) _ _ 1 1 [u, .bool b] rfl hsrc.out hone.out (by unfold maxLen; omega) (by omega) (by simp; omega) ?_
  intro v2 w2 hrow2 hg2 hv2
  obtain ⟨A2, c2, rfl, hc2, hm2⟩ := row_form hrow2
  refine hK _ _ (fun _ => Upd.of_own hg2) ?_
  clear hK K
  have hh2 := blk_grow hhW.out hg2 hn1.out
  have q0 := blk_cell (j := 0) hh2 rfl
  have q1 := blk_free hh2 0
  have hlt2 := hg2.size
  have h6 : w1.heap.size ≤ w2.heap.size := Nat.le_trans (by simp) hlt2
  have hR2 := Lib.hid (Recs.push (b := l) (z := b) hrecsW.out (u := u) (hu1.out.alloc (.cells #[u, .bool b] 66)) hg2 (by rw [hn.out]; exact hrow2) (fun k hk => by have h5 := (hu1.out.lt k hk).2; omega) (by omega))
  clear h6 hlt2
  have hT2 := Lib.hid (TChg.of_row (ts := [64, 66]) (hrow1.out.alloc (.cells #[u, .bool b] 66)).drew hg2 (by simp))
  have hg2s := hg2.size
  replace hg2 := Lib.hid hg2
  replace hrow2 := Lib.hid hrow2
  clear hv2
  replace hh2 := Lib.hid hh2
  try simp only [Act.put, List.setIfInBounds_toArray, List.set_cons_zero, List.set_cons_succ]
  refine wpR_one 8 rfl (by kernel_rfl) (by kernel_rfl) (fun K hK => ?_)
  go_simp
  refine hK _ _ (fun _ => Upd.refl _ _) ?_
  clear hK K
  try simp only [Act.put, List.setIfInBounds_toArray, List.set_cons_zero, List.set_cons_succ]
  refine wpR_take (i := 9) (v := ?_) (Upd.road _) (some 14) rfl (by kernel_rfl) (by kernel_rfl) (by kernel_rfl) (by kernel_rfl) (by kernel_rfl) (fun _ _ _ h => h) (by kernel_rfl) (fun w' hw' => ?_) ?_
  rotate_left
  · go_simp; with_reducible rfl
  simp only [Act.put, List.setIfInBounds_toArray, List.set_cons_zero, List.set_cons_succ]
  refine wpR_one 10 rfl (by kernel_rfl) (by kernel_rfl) (fun K hK => ?_)
  go_simp
  refine hK _ _ (fun h => absurd h (by decide)) ?_
  clear hK K
  try simp only [Act.put, List.setIfInBounds_toArray, List.set_cons_zero, List.set_cons_succ]
  refine wpR_done (by kernel_rfl) ?_ _
  go_wp2
  go_ret
  refine ⟨rfl, ?_, ?_⟩
  · rw [World.size_setCell]
    exact Ct.set0 (s := s) hh2.out hgb.1 hR2.out ⟨by show (s.recs ++ [(l, b)]).length ≤ s.most; rw [List.length_append, hn.out]; exact hroom, hmo, fun r hr => by
      rcases List.mem_append.1 hr with hr | hr
      · exact hok.out.len r hr
      · simp at hr; subst hr; exact hl⟩
  · exact (((TChg.of_below hba.out).trans (TChg.of_alloc w1 _)).trans hT2.out).trans (TChg.of_set hh2.out (by simp) hgb.1 0 _)
end Go.Proofs.Ytfjhdcppehfiiaa
