/- cat: what the reference's Notes wants, plain. -/
import Derived.Test.YthboeoidgglcgaaGreatCpC
import Derived.Test.YthboeoidgglcgaaGreatCtZ
namespace Go.Proofs.YthboeoidgglcgaaGreat
set_option linter.unusedVariables false
set_option linter.unusedSimpArgs false
set_option linter.unusedSectionVars false
open Go Go.RowKit Go.Maps Go.Sort Go.Shelf Go.Proofs
set_option maxRecDepth 100000 in
theorem run_tobytes (w : World) (m : List UInt8) : ∃ c w', (convert 9 34 (.string (bs m))).run Tryz.prog w = .ok (.slice (some ⟨w.heap.size, 0, none⟩) m.length c) w' ∧ m.length ≤ c ∧ (m.length ≤ maxLen → c ≤ maxLen) ∧
    Rd w' w'.heap.size (some ⟨w.heap.size, 0, none⟩) m ∧ Below w.heap.size w w' := by
  have h := run_bytes_of_string (P := Tryz.prog) w 9 34 5 (bs m) Tryz.underlying9 Tryz.underlying34 Tryz.underlying5
  rw [show (bs m).size = m.length from rfl] at h
  refine ⟨_, _, h, grownCap_ge _ _ _ _, fun hm => grownCap_le_maxLen _ _ _ _ hm, ⟨by simp, fun _ => ⟨_, rfl, by simp, fun j u hu => ?_⟩⟩, (Below.refl w.heap.size w).drew.alloc (Nat.le_refl _) _⟩
  have hj : j < m.length := by
    have := (List.getElem?_eq_some_iff.mp hu).1
    simpa using this
  rw [List.getElem?_map, List.getElem?_eq_getElem hj] at hu
  injection hu with hu
  have hadd : (⟨w.heap.size, 0, none⟩ : Addr).add j = ⟨w.heap.size, j, none⟩ := by unfold Addr.add; split <;> simp_all
  have hblk : ∀ o : Obj, (w.drew.alloc o).heap[w.heap.size]? = some o := fun o => heap_alloc_new w.drew o
  rw [hadd, cell_of_row _ _ j _ _ _ (hblk _), bytesRow_at (bs m) _ j (by simpa [bs] using hj), ← hu]
  simp [bs, vb, U]
theorem sub_len {α : Type} [BEq α] [LawfulBEq α] {l m : List α} (hn : l.Nodup) (hs : ∀ x ∈ l, x ∈ m) : l.length ≤ m.length := by
  induction l generalizing m with
  | nil => exact Nat.zero_le _
  | cons x l ih =>
    obtain ⟨h1, h2⟩ := List.nodup_cons.mp hn
    have hx := hs x (by simp)
    have h3 := ih (m := m.erase x) h2 (fun y hy => (List.mem_erase_of_ne (by rintro rfl; exact h1 hy)).mpr (hs y (by simp [hy])))
    rw [List.length_erase_of_mem hx] at h3
    have : 0 < m.length := List.length_pos_of_mem hx
    simp only [List.length_cons]
    omega
def outR (R : List Int) (k : Nat) : List Int := ((List.range k).map (fun (n : Nat) => (n : Int))).filter (fun z => R.contains z)
theorem outR_zero (R : List Int) : outR R 0 = [] := rfl
theorem outR_succ (R : List Int) (k : Nat) : outR R (k + 1) = outR R k ++ (if R.contains (k : Int) = true then [(k : Int)] else []) := by
  unfold outR
  rw [List.range_succ, List.map_append, List.filter_append]
  congr 1
  by_cases h : R.contains (k : Int) = true
  · rw [if_pos h, List.map_cons, List.map_nil, List.filter_cons_of_pos h]; rfl
  · rw [if_neg h, List.map_cons, List.map_nil, List.filter_cons_of_neg h]; rfl
theorem outR_len (R : List Int) (k : Nat) : (outR R k).length ≤ k := by
  unfold outR
  refine Nat.le_trans (List.length_filter_le _ _) ?_
  rw [List.length_map, List.length_range]
  exact Nat.le_refl _
theorem outR_all {R : List Int} (hd : R.Nodup) (hok : ∀ z ∈ R, 0 ≤ z ∧ z ≤ 31) : sortZ R = outR R 32 := by
  have hr : (outR R 32).Pairwise (fun a b => a < b) := by
    unfold outR
    refine List.Pairwise.filter _ ?_
    rw [List.pairwise_map]
    exact List.Pairwise.imp (fun {a b} (hab : a < b) => by omega) List.pairwise_lt_range
  have hnd : (outR R 32).Nodup := hr.imp (fun {a b} hab e => by omega)
  have hp : (outR R 32).Perm R := by
    refine perm_of_sub hnd (fun x hx => ?_) (sub_len hd (fun x hx => ?_))
    · unfold outR at hx
      have := (List.mem_filter.mp hx).2
      rwa [List.contains_iff_mem] at this
    · obtain ⟨h1, h2⟩ := hok x hx
      obtain ⟨n, rfl⟩ := Int.eq_ofNat_of_zero_le h1
      unfold outR
      refine List.mem_filter.mpr ⟨List.mem_map.mpr ⟨n, List.mem_range.mpr (by omega), rfl⟩, ?_⟩
      rw [List.contains_iff_mem]; exact hx
  have h1 : sortZ R = sortZ (outR R 32) := mergeSort_of_perm_i hp.symm
  rw [h1]
  exact List.mergeSort_of_pairwise (hr.imp (fun {a b} hab => by simpa using Int.le_of_lt hab))
theorem lastG_snoc (L : List (By × Int)) (x : By × Int) : lastG (L ++ [x]) = x.2 := by
  unfold lastG
  rw [List.getLast?_append]
  rfl
/-- those of the first k begun that wait -/
def begK (c : CtP) (k : Nat) : List (By × Int) := (c.B.take k).filter (fun e => hasP c.W e.1)
theorem begK_succ {c : CtP} {k : Nat} {x : By × Int} (hx : c.B[k]? = some x) : begK c (k + 1) = begK c k ++ (if hasP c.W x.1 = true then [x] else []) := by
  unfold begK
  rw [List.take_add_one, hx, List.filter_append]
  congr 1
  by_cases h : hasP c.W x.1 = true
  · rw [if_pos h]; simp [h]
  · rw [if_neg h]; simp [h]
theorem begK_end (c : CtP) {k : Nat} (hk : c.B.length ≤ k) : begK c k = begP c := by unfold begK begP; rw [List.take_of_length_le hk]
theorem begK_len (c : CtP) (k : Nat) : (begK c k).length ≤ k := by
  unfold begK
  refine Nat.le_trans (List.length_filter_le _ _) (List.length_take_le _ _)
theorem wp_appN {w : World} {o : Oper} {a : Act} {Q : Exit → Act → World → Prop} {K : Act → World → Prop} (s x : Operand)
    (ho : o.op = .call { callee := .builtin .append, args := #[s, x], argTypes := #[22, 22] })
    (base : Nat) (v : Value) (E : List Ne) (q : Ne) (hs : a.eval s = v) (hown : ON E v base w) (A : Option Addr) (c : Nat) (hx : a.eval x = .slice A 1 c) (hr : Reads w w.heap.size 8 A 1 q.cells)
    (hq : NeV q w) (hap : Apt q v.ownBlock) (hlen : E.length ≤ 1000000000000) (hbase : base ≤ w.heap.size)
    (h : ∀ v' w', ON (E ++ [q]) v' base w' → w.grownBy w' v.ownBlock → Below base w w' → K (a.put o.dst v') w') : Oper.wp Tryz.prog o a w K Q := by
  obtain ⟨i0, hi, hz0, hz1, hz2⟩ := info_parts info_note
  refine wp_append_any w s x 22 ho base 37 i0 _ 8 112 Tryz.underlying22 hi hz0 hz1 hz2 rfl (by omega) v E.length (flatN E) hs hown.row w.heap.size A 1 c q.cells hx hr (by have := flatN_one [q]; simpa [flatN] using this)
    (by simp only [maxLen]; omega) (by omega) hbase fun v' w' h2 h3 h4 => h v' w' ⟨?_, ?_, ?_⟩ h3 ((Below.refl base w).grown h3 hbase (fun k hk => (World.ownsRow.lt hown.row k hk).1))
  · rw [List.length_append, flatN_app]
    simpa [flatN] using h2
  · intro y hy
    rcases List.mem_append.mp hy with hy | hy
    · exact (hown.vs y hy).own (hown.ap y hy) h3
    · simp only [List.mem_singleton] at hy
      subst hy
      exact hq.own hap h3
  · intro y hy
    have hyv : NeV y w ∧ Apt y v.ownBlock := by
      rcases List.mem_append.mp hy with hy | hy
      · exact ⟨hown.vs y hy, hown.ap y hy⟩
      · simp only [List.mem_singleton] at hy
        subst hy
        exact ⟨hq, hap⟩
    rcases h4 with h4 | h4
    · rw [h4]; exact hyv.2
    · rw [h4]; exact hyv.1.fresh (Nat.le_refl _)
theorem TChg.cellT {w w' : World} {lo : Nat} {ts : List TypeId} (h : TChg lo ts w w') {k j : Nat} {T : TypeId} (hh : ∃ cs, w.heap[k]? = some (.cells cs T (0, 0))) (hT : T ∉ ts) : w'.cell? ⟨k, j, none⟩ = w.cell? ⟨k, j, none⟩ := by
  obtain ⟨cs, hh⟩ := hh
  exact World.cell?_of_block (w := w) ((h.block hh hT).trans hh.symm)
end Go.Proofs.YthboeoidgglcgaaGreat
