/- scan: rows of finds of the call's own; digest, tomb, few. -/
import Derived.Test.YtiliggleplpjbaaScY
import Derived.Test.YtiliggleplpjbaaSr2
import Derived.Test.YtiliggleplpjbaaBytes2
import Derived.Test.YtiliggleplpjbaaReg4
import Derived.Test.YtiliggleplpjbaaSr4
import Derived.Test.YtiliggleplpjbaaSc1
namespace Go.Proofs.Ytiliggleplpjbaa
set_option linter.unusedVariables false
set_option linter.unusedSimpArgs false
open Go Go.RowKit Go.Maps Go.Proofs
/-- its bytes lie in no row block -/
def AptF (x : Fe) (ob : Option Nat) : Prop := 0 < x.f.r.data.length → ∀ ad, x.A = some ad → ob ≠ some ad.block
theorem AptF.none_ (x : Fe) : AptF x none := fun _ _ _ => by simp
theorem FeV.own {x : Fe} {w w' : World} {ob : Option Nat} (h : FeV x w) (ha : AptF x ob) (hg : w.grownBy w' ob) : FeV x w' := by
  obtain ⟨A', c', e1, h1, h2, h3⟩ := h
  injection e1 with e1 _ e3
  subst e1
  subst e3
  refine ⟨_, _, rfl, h1, h2, h3.1, fun hn => ?_⟩
  obtain ⟨ad, ea, hb, hcell⟩ := h3.2 hn
  have hne := ha hn ad ea
  refine ⟨ad, ea, Nat.lt_of_lt_of_le hb hg.size, fun j u hu => ?_⟩
  rw [← hcell j u hu]
  exact World.cell?_of_block (by rw [block_of_add]; exact hg.block _ hb (fun e => hne e.symm))
theorem FeV.fresh {x : Fe} {w : World} (h : FeV x w) {k : Nat} (hk : w.heap.size ≤ k) : AptF x (some k) := by
  obtain ⟨A', c', e1, h1, h2, h3⟩ := h
  injection e1 with e1 _ e3
  subst e1
  intro hn ad ea
  obtain ⟨ad', ea', hb, -⟩ := h3.2 hn
  rw [ea] at ea'
  injection ea' with ea'
  subst ea'
  intro e
  injection e with e
  omega
/-- a row of finds of the call's own -/
structure OF (E : List Fe) (v : Value) (base : Nat) (w : World) : Prop where
  row : w.ownsRow base 39 12 v E.length (flatF E)
  vs : ∀ x ∈ E, FeV x w
  ap : ∀ x ∈ E, AptF x v.ownBlock
theorem OF.nil_ (w : World) (base : Nat) : OF [] (.slice none 0 0) base w := ⟨World.ownsRow_nil w base _ 12, fun x h => (by cases h), fun x h => (by cases h)⟩
theorem OF.gr {E : List Fe} {v : Value} {base : Nat} {w w' : World} (hr : Gr w w') (h : Hid (OF E v base w)) : Hid (OF E v base w') :=
  Lib.hid ⟨row_below h.out.row hr, fun x hx => (h.out.vs x hx).gr hr, h.out.ap⟩
theorem OF.form {E : List Fe} {v : Value} {base : Nat} {w : World} (h : OF E v base w) : ∃ A c, v = .slice A E.length c ∧ E.length ≤ c ∧ c ≤ maxLen := row_form h.row
theorem OF.fs {E : List Fe} {v : Value} {base : Nat} {w : World} (h : OF E v base w) : FsV E v w := by
  obtain ⟨A, c, rfl, h1, h2⟩ := h.form
  refine ⟨A, c, rfl, h1, h2, fun hp => ?_, h.vs⟩
  have hr := Reads.of_own h.row
  obtain ⟨g, cap, hv, _, hlt⟩ := World.ownsRow.form h.row hp
  have hA : A = some ⟨g, 0, none⟩ := by injection hv
  subst hA
  obtain ⟨ad, e, hb, hc⟩ := hr.2 hp
  injection e with e
  subst e
  refine ⟨g, 0, rfl, hb, fun i x hx j u hu => ?_⟩
  have hj : j < 12 := (List.getElem?_eq_some_iff.mp hu).1
  have a := hc _ u ((flatF_at hx j hj).trans hu)
  rw [addr0] at a
  rw [show 0 + i * 12 + j = i * 12 + j from by omega]
  exact a
theorem FsV.reads {E : List Fe} {A : Option Addr} {m c : Nat} {w : World} (h : FsV E (.slice A m c) w) : Reads w w.heap.size 12 A E.length (flatF E) := by
  obtain ⟨A', c', e, h1, h2, h3, h4⟩ := h
  injection e with e1 _ _
  subst e1
  refine ⟨flatF_len E, fun hn => ?_⟩
  obtain ⟨b, o, rfl, hb, hc⟩ := h3 hn
  refine ⟨⟨b, o, none⟩, rfl, hb, fun j u hu => ?_⟩
  have hj : j < E.length * 12 := by rw [← flatF_len]; exact (List.getElem?_eq_some_iff.mp hu).1
  obtain ⟨x, hx⟩ : ∃ x, E[j / 12]? = some x := ⟨_, List.getElem?_eq_getElem (by omega)⟩
  have h2 := flatF_at hx (j % 12) (by omega)
  rw [show j / 12 * 12 + j % 12 = j from by omega, hu] at h2
  have h5 := hc (j / 12) x hx (j % 12) u h2.symm
  rw [show (⟨b, o, none⟩ : Addr).add j = ⟨b, o + j, none⟩ from by simp [Addr.add]]
  rwa [show o + j / 12 * 12 + j % 12 = o + j from by omega] at h5
/-- some of them, from the front -/
theorem FsV.take {E : List Fe} {A : Option Addr} {m c : Nat} {w : World} (h : FsV E (.slice A m c) w) {k : Nat} (hk : k ≤ m) : FsV (E.take k) (.slice A k c) w := by
  obtain ⟨A', c', e, h1, h2, h3, h4⟩ := h
  injection e with e1 e2 e3
  subst e1 e2 e3
  have hl : (E.take k).length = k := by rw [List.length_take]; omega
  refine ⟨A, c, by rw [hl], by omega, h2, fun hp => ?_, fun x hx => h4 x (List.mem_of_mem_take hx)⟩
  obtain ⟨b, o, rfl, hb, hc⟩ := h3 (by omega)
  refine ⟨b, o, rfl, hb, fun i x hx j u hu => ?_⟩
  rw [List.getElem?_take] at hx
  split at hx
  · exact hc i x hx j u hu
  · cases hx
/-- .. from a place on -/
theorem FsV.drop {E : List Fe} {b o m c : Nat} {w : World} (h : FsV E (.slice (some ⟨b, o, none⟩) m c) w) {k : Nat} (hk : k ≤ m) : FsV (E.drop k) (.slice (some ⟨b, o + k * 12, none⟩) (m - k) (c - k)) w := by
  obtain ⟨A', c', e, h1, h2, h3, h4⟩ := h
  injection e with e1 e2 e3
  subst e1 e2 e3
  refine ⟨_, _, by rw [List.length_drop], by rw [List.length_drop]; omega, by omega, fun hp => ?_, fun x hx => h4 x (List.mem_of_mem_drop hx)⟩
  rw [List.length_drop] at hp
  obtain ⟨b', o', e, hb, hc⟩ := h3 (by omega)
  injection e with e
  injection e with e1 e2 _
  subst e1 e2
  refine ⟨b, _, rfl, hb, fun i x hx j u hu => ?_⟩
  rw [List.getElem?_drop] at hx
  rw [show o + k * 12 + i * 12 + j = o + (k + i) * 12 + j from by omega]
  exact hc (k + i) x hx j u hu
theorem FsV.vs {E : List Fe} {v : Value} {w : World} (h : FsV E v w) : ∀ x ∈ E, FeV x w := by
  obtain ⟨A', c', e, h1, h2, h3, h4⟩ := h; exact h4
theorem info_found : (Try.prog.info? 39).map (fun i => (i.zero, i.size, i.bytes)) = some (some (.agg #[.int .i64 0, .int .i64 0, .int .i64 0, .int .i64 0, .string ⟨#[]⟩, .int .i64 0, .int .i64 0, .int .i64 0, .int .i64 0, .int .i64 0, .string ⟨#[]⟩, .slice none 0 0]), 12, 128) := by kernel_rfl
theorem wpl_appF {w : World} {ops : Array Oper} {rest : List Oper} {o : Oper} {a : Act} {Q : Exit → Act → World → Prop} (hgd : o.guard = none) (s x : Operand)
    (ho : o.op = .call { callee := .builtin .append, args := #[s, x], argTypes := #[22, 22] })
    (base : Nat) (v : Value) (E E2 : List Fe) (hs : a.eval s = v) (hown : OF E v base w) (A : Option Addr) (n c : Nat) (hn : E2.length = n) (hx : a.eval x = .slice A n c) (hr : Reads w w.heap.size 12 A E2.length (flatF E2))
    (hq : ∀ q ∈ E2, FeV q w ∧ AptF q v.ownBlock) (hlen : E.length ≤ 1000000) (hlen2 : n ≤ 1000000) (hbase : base ≤ w.heap.size)
    (h : ∀ v' w', OF (E ++ E2) v' base w' → w.grownBy w' v.ownBlock → Below base w w' → wpList Try.prog ops Q rest (a.put o.dst v') w') : wpList Try.prog ops Q (o :: rest) a w := by
  obtain ⟨i0, hi, hz0, hz1, hz2⟩ := info_parts info_found
  rw [hn] at hr
  refine wpList_plain hgd fun _ hK => wp_append_any w s x 22 ho base 39 i0 _ 12 128 Try.underlying22 hi hz0 hz1 hz2 rfl (by omega) v E.length (flatF E) hs hown.row w.heap.size A n c (flatF E2) hx hr (flatF_one E2)
    (by simp only [maxLen]; omega) (by omega) hbase fun v' w' h2 h3 h4 => hK _ _ (h v' w' ⟨?_, ?_, ?_⟩ h3 ((Below.refl base w).grown h3 hbase (fun k hk => (World.ownsRow.lt hown.row k hk).1)))
  · rw [List.length_append, flatF_app, hn]
    exact h2
  · intro y hy
    rcases List.mem_append.mp hy with hy | hy
    · exact (hown.vs y hy).own (hown.ap y hy) h3
    · exact (hq y hy).1.own (hq y hy).2 h3
  · intro y hy
    have hyv : FeV y w ∧ AptF y v.ownBlock := by
      rcases List.mem_append.mp hy with hy | hy
      · exact ⟨hown.vs y hy, hown.ap y hy⟩
      · exact hq y hy
    rcases h4 with h4 | h4
    · rw [h4]; exact hyv.2
    · rw [h4]; exact hyv.1.fresh (Nat.le_refl _)
theorem Reads.foundLit (w : World) (q : Fe) : Reads (w.alloc (.cells q.cells.toArray 39)) (w.alloc (.cells q.cells.toArray 39)).heap.size 12 (some ⟨w.heap.size, 0, none⟩) 1 q.cells :=
  ⟨rfl, fun _ => ⟨_, rfl, by simp, fun j u hu => by
    rw [addr0]
    exact cell_new w _ _ (by simpa using hu)⟩⟩
theorem flatF_one1 (q : Fe) : flatF [q] = q.cells := by unfold flatF; rw [List.flatMap_cons, List.flatMap_nil, List.append_nil]
/-- a row that was made with one find -/
theorem OF.lit (w : World) (q : Fe) (h : FeV q w) {base : Nat} (hb : base ≤ w.heap.size) : OF [q] (.slice (some ⟨w.heap.size, 0, none⟩) 1 1) base (w.alloc (.cells q.cells.toArray 39)) := by
  refine ⟨⟨flatF_len [q], .inr ⟨w.heap.size, 1, q.cells.toArray, rfl, hb, heap_alloc_new w _, Nat.le_refl _, by simp only [maxLen]; omega, rfl, ?_⟩⟩, fun x hx => ?_, fun x hx => ?_⟩
  · rw [flatF_one1]
    try rfl
  · rw [List.mem_singleton] at hx; subst hx; exact h.gr (Gr.alloc _ _)
  · rw [List.mem_singleton] at hx; subst hx; exact h.fresh (Nat.le_refl _)
/-- some 32 bytes -/
def digL (n : Int) : By := UInt8.ofNat (n % 256).toNat :: List.replicate 31 0
theorem digL_len (n : Int) : (digL n).length = 32 := rfl
theorem digL_set (n : Int) : (List.replicate 32 (0 : UInt8)).set 0 (UInt8.ofNat (n % 256).toNat) = digL n := rfl
theorem digU (n : Int) : Value.int .u8 (U (UInt8.ofNat (n % 256).toNat)) = .int .u8 (n % 256) := by
  have h : 0 ≤ n % 256 ∧ n % 256 < 256 := ⟨Int.emod_nonneg _ (by decide), Int.emod_lt_of_pos _ (by decide)⟩
  congr 1
  unfold U
  have := UInt8.toNat_ofNat' (n := (n % 256).toNat)
  omega
set_option maxRecDepth 100000 in
theorem digest_any (n : Int) (w : World) : Calls Try.prog 39 #[.int .i64 n] w fun e w' => e = .returned (.string (bs (digL n))) ∧ Gr w w' := by
  go_enter Try.func39, Try.ntmps39
  go_upto_region 2 with (refine wpl_make rfl (.const (.int .i64 32)) (.const (.int .i64 32)) rfl w.heap.size 32 rfl rfl (by omega) (Nat.le_refl _) ?_; intro w1 ho hb1)
  obtain ⟨g, hg, hgb, hlt, hc0, hf0, hset⟩ := ho.store (k := 0) (by decide)
  injection hg with hg
  injection hg with hg _ _
  subst hg
  have hs2 := hset (UInt8.ofNat (n % 256).toNat)
  rw [digL_set, digU] at hs2
  have hrd := (OB.rd hs2).1
  have hb2 : Gr w (w1.setCell ⟨w.heap.size, 0, none⟩ (.int .u8 (n % 256))) := Below.setCell hb1 (p := ⟨w.heap.size, 0, none⟩) (Nat.le_refl _) _
  have hcv : (convert 35 9 (.slice (some ⟨w.heap.size, 0, none⟩) 32 32)).run Try.prog (w1.setCell ⟨w.heap.size, 0, none⟩ (.int .u8 (n % 256))) = .ok (.string (bs (digL n))) (w1.setCell ⟨w.heap.size, 0, none⟩ (.int .u8 (n % 256))) := run_str_at 32 hrd (digL_len n)
  have hwr : IntKind.u8.wrap n = n % 256 := by rfl
  replace ho := Lib.hid ho
  replace hb1 := Lib.hid hb1
  replace hset := Lib.hid hset
  replace hs2 := Lib.hid hs2
  replace hrd := Lib.hid hrd
  replace hb2 := Lib.hid hb2
  go_wp2_with fail
  go_ret
  exact ⟨rfl, hb2.out⟩
/-- a tomb that is found -/
def tombF (key : By) (g : Int) : Fd := ⟨31, 1, ⟨3, 0, key, g, 0, 0, 0, 0, [], []⟩⟩
def tombE (key : By) (g : Int) : Fe := ⟨tombF key g, none, 0⟩
theorem tombE_v (key : By) (g : Int) (w : World) : FeV (tombE key g) w := Byt.nil_ w
theorem tomb_any (key : By) (g : Int) (w : World) : Calls Try.prog 16 #[.string (bs key), .int .i64 g] w fun e w' => e = .returned (tombE key g).agg ∧ Gr w w' := by
  have hl : (loadVar 39 ⟨w.heap.size, 0, none⟩).run Try.prog (w.alloc (.cells #[.int .i64 31, .int .i64 1, .int .i64 3, .int .i64 0, .string (bs key), .int .i64 g, .int .i64 0, .int .i64 0, .int .i64 0, .int .i64 0, .string ⟨#[]⟩, .slice none 0 0] 39)) = .ok (tombE key g).agg (w.alloc (.cells #[.int .i64 31, .int .i64 1, .int .i64 3, .int .i64 0, .string (bs key), .int .i64 g, .int .i64 0, .int .i64 0, .int .i64 0, .int .i64 0, .string ⟨#[]⟩, .slice none 0 0] 39)) := by
    exact run_loadVar_row (P := Try.prog) (w.alloc (.cells #[.int .i64 31, .int .i64 1, .int .i64 3, .int .i64 0, .string (bs key), .int .i64 g, .int .i64 0, .int .i64 0, .int .i64 0, .int .i64 0, .string ⟨#[]⟩, .slice none 0 0] 39)) w.heap.size 39 39 #[.int .i64 31, .int .i64 1, .int .i64 3, .int .i64 0, .string (bs key), .int .i64 g, .int .i64 0, .int .i64 0, .int .i64 0, .int .i64 0, .string ⟨#[]⟩, .slice none 0 0] (0, 0) _ (heap_alloc_new w _) Try.underlying39 rfl (by kernel_rfl)
  replace hl := Lib.hid hl
  go_enter Try.func16, Try.ntmps16
  go_wp2_with fail
  exact bodyPost_ret (v := (tombE key g).agg) (results_cellQ rfl rfl hl.out) rfl ⟨rfl, Gr.alloc _ _⟩
theorem few_any (E : List Fe) (A : Option Addr) (m c : Nat) (w : World) (h : FsV E (.slice A m c) w) : Calls Try.prog 9 #[.slice A m c] w fun e w' => ∃ k, e = .returned (.slice A k c) ∧ k ≤ 130 ∧ FsV (E.take k) (.slice A k c) w ∧ w' = w := by
  have hlen := h.len
  by_cases hm : m ≤ 130
  · have h0 : ¬ ((130 : Int) < (m : Int)) := by omega
    have ht : Hid (FsV (E.take m) (.slice A m c) w) := Lib.hid (h.take (Nat.le_refl _))
    replace hlen := Lib.hid hlen
    replace h := Lib.hid h
    go_enter Try.func9, Try.ntmps9
    go_wp2_with fail
    go_ret
    exact ⟨m, rfl, hm, ht.out, rfl⟩
  · have h0 : (130 : Int) < (m : Int) := by omega
    have hc : (130 : Int) ≤ (c : Int) := by omega
    have ht : Hid (FsV (E.take 130) (.slice A 130 c) w) := Lib.hid (h.take (by omega))
    replace hlen := Lib.hid hlen
    replace h := Lib.hid h
    go_enter Try.func9, Try.ntmps9
    go_wp2_with fail
    go_ret
    exact ⟨130, rfl, Nat.le_refl _, ht.out, rfl⟩
end Go.Proofs.Ytiliggleplpjbaa
/- scan: copyOf, all shards of a copy. -/
namespace Go.Proofs.Ytiliggleplpjbaa
set_option linter.unusedVariables false
set_option linter.unusedSimpArgs false
open Go Go.RowKit Go.Maps Go.Proofs
theorem info_u8_16 : (Try.prog.info? 5).map (fun i => (i.zero, i.size, i.bytes)) = some (some (.int .u8 0), 1, 1) := by kernel_rfl
theorem madeCells_one (v : Value) (m : Nat) : madeCells #[v] (m * 1) = (List.replicate m v).toArray := by
  unfold madeCells
  refine Array.ext (by simp) fun i h1 h2 => ?_
  simp [Nat.mod_one]
def z16 : Array Value := (List.replicate 16 (Value.int .u8 0)).toArray
theorem bytes_make (w : World) : (Instr.makeSlice 35 (.int .i64 16) (.int .i64 16)).run Try.prog w = .ok (.slice (some ⟨w.heap.size, 0, none⟩) 16 16) (w.alloc (.cells z16 5)) := by
  obtain ⟨i0, hi, hz0, hz1, hz2⟩ := info_parts info_u8_16
  have h := run_make (P := Try.prog) w 35 5 i0 _ Try.underlying35 hi hz0 .i64 .i64 16 16 (by omega) (by omega) (by rw [hz2]; omega) (by omega)
  rw [h, hz1]
  rw [show (Value.int .u8 0).cells = #[.int .u8 0] from rfl, madeCells_one]
  rfl
/-- 16 bytes of nothing lie in block d -/
def Z16 (d : Nat) (w : World) : Prop := w.heap[d]? = some (.cells z16 5 (0, 0))
theorem Z16.byt {d : Nat} {w : World} (h : Z16 d w) : Byt (List.replicate 16 0) (.slice (some ⟨d, 0, none⟩) 16 16) w := by
  refine ⟨some ⟨d, 0, none⟩, 16, rfl, by simp, by simp only [maxLen]; omega, by simp, fun _ => ⟨_, rfl, blk_lt h, fun j u hu => ?_⟩⟩
  rw [addr0]
  have hj : j < 16 := by have := (List.getElem?_eq_some_iff.mp hu).1; simpa using this
  refine blk_cell h ?_
  rw [List.map_replicate] at hu
  unfold z16
  rw [List.getElem?_toArray]
  exact hu
theorem set10_oth {w : World} {d R : Nat} (hne : d ≠ R) (a0 a1 a2 a3 a4 a5 a6 a7 a8 a9 : Value) : ((((((((((w.setCell ⟨R, 0, none⟩ a0).setCell ⟨R, 1, none⟩ a1).setCell ⟨R, 2, none⟩ a2).setCell ⟨R, 3, none⟩ a3).setCell ⟨R, 4, none⟩ a4).setCell ⟨R, 5, none⟩ a5).setCell ⟨R, 6, none⟩ a6).setCell ⟨R, 7, none⟩ a7).setCell ⟨R, 8, none⟩ a8).setCell ⟨R, 9, none⟩ a9).heap[d]? = w.heap[d]? := by
  rw [blk_other hne 9 a9, blk_other hne 8 a8, blk_other hne 7 a7, blk_other hne 6 a6, blk_other hne 5 a5, blk_other hne 4 a4, blk_other hne 3 a3, blk_other hne 2 a2, blk_other hne 1 a1, blk_other hne 0 a0]
/-- the shards of a copy, the first k of them -/
def copyF (key : By) (gen size frm : Int) (k : Nat) : List Fd := (List.range k).map (shardAt key gen size (digL size) (List.replicate 16 0) frm)
theorem copyF_succ (key : By) (gen size frm : Int) (k : Nat) : copyF key gen size frm (k + 1) = copyF key gen size frm k ++ [shardAt key gen size (digL size) (List.replicate 16 0) frm k] := by
  unfold copyF; rw [List.range_succ, List.map_append]; rfl
theorem copyF_len (key : By) (gen size frm : Int) (k : Nat) : (copyF key gen size frm k).length = k := by unfold copyF; simp
/-- what copyOf answers -/
def CopyPost (key : By) (gen size frm : Int) (k : Nat) (base : Nat) (v : Value) (W : World) : Prop := ∃ E : List Fe, E.map (·.f) = copyF key gen size frm k ∧ OF E v base W
set_option maxRecDepth 100000 in
set_option maxHeartbeats 4000000 in
theorem copyOf_any (key : By) (gen z frm : Int) (hz0 : 0 ≤ z) (hz1 : z ≤ 512) (hf0 : 0 ≤ frm) (hf1 : frm ≤ 1000) (w : World) :
    Calls Try.prog 17 #[.string (bs key), .int .i64 gen, .int .i64 z, .int .i64 frm] w fun e w' => ∃ A m c, e = .returned (.slice A m c) ∧ m = nSlots ⟨key, gen, z, digL z⟩ ∧ Hid (CopyPost key gen z frm m w.heap.size (.slice A m c) w') ∧ Gr w w' := by
  have hz := Lib.hid hz0
  have hgr := rgroups_any z hz0 hz1
  obtain ⟨n, hn⟩ : ∃ n : Nat, (groupsOf z).toNat = n := ⟨_, rfl⟩
  have hgz : 1 ≤ groupsOf z ∧ groupsOf z ≤ 4 := by
    unfold groupsOf
    rw [if_pos (by unfold inB; simp only [Bool.and_eq_true, decide_eq_true_eq]; omega)]
    constructor <;> omega
  have hnn : groupsOf z = (n : Int) := by omega
  have hns : Hid (nSlots ⟨key, gen, z, digL z⟩ = 10 * n) := Lib.hid (by unfold nSlots; simp only; rw [hn])
  have hn4 : n ≤ 4 := by omega
  have hgn := Lib.hid hnn
  rw [hnn] at hgr
  replace hgr := Lib.hid hgr
  have hmk := bytes_make
  obtain ⟨w1, hw1⟩ : ∃ w1, w.alloc (.cells #[] 39) = w1 := ⟨_, rfl⟩
  have hg1 : Gr w w1 := by rw [← hw1]; exact Gr.alloc _ _
  have hr1 : OF [] (.slice (some ⟨w.heap.size, 0, none⟩) 0 0) w.heap.size w1 := ⟨⟨rfl, .inr ⟨w.heap.size, 0, #[], rfl, Nat.le_refl _, by rw [← hw1]; exact heap_alloc_new w _, Nat.le_refl _, Nat.zero_le _, rfl, rfl⟩⟩, fun x h => (by cases h), fun x h => (by cases h)⟩
  clear hn hnn hgz hz0 hz1
  go_enter Try.func17, Try.ntmps17
  go_wp2_with (go_at_call 38; go_must (refine (hgr.out _).mono ?_); clear hgr; rintro e w2 ⟨rfl, rfl⟩)
  replace hw1 := Lib.hid hw1
  replace hg1 := Lib.hid hg1
  replace hr1 := Lib.hid hr1
  go_loopw [9, 11] (fun o u wr => ∃ (g m : Nat) (A : Option Addr) (c : Nat), g ≤ n ∧ u = .int .i64 g ∧ o = .slice A m c ∧ Hid (m = 10 * g) ∧ Hid (CopyPost key gen z frm m w.heap.size (.slice A m c) wr) ∧ Hid (Gr w wr)) (fun _ u _ => n - (intOf u).toNat)
  case atStart => exact ⟨0, 0, _, _, Nat.zero_le _, rfl, rfl, Lib.hid rfl, Lib.hid ⟨[], rfl, hr1.out⟩, hg1⟩
  case round =>
    obtain ⟨g, m, A, c, hgle, rfl, rfl, hm, hcp, hg⟩ := hrel
    clear hr1 hg1
    obtain ⟨wo, hwo⟩ : ∃ wo, wo = wr := ⟨_, rfl⟩
    subst hwo
    by_cases hlt : g < n
    · have ii : (g : Int) < (n : Int) := by omega
      go_wp2_with fail
      go_loopw [9, 12] (fun o u wr => ∃ (i m : Nat) (A : Option Addr) (c : Nat), i ≤ 10 ∧ u = .int .i64 i ∧ o = .slice A m c ∧ Hid (m = 10 * g + i) ∧ Hid (CopyPost key gen z frm m w.heap.size (.slice A m c) wr) ∧ Hid (Gr w wr)) (fun _ u _ => 10 - (intOf u).toNat)
      case atStart => exact ⟨0, m, _, _, Nat.zero_le _, rfl, rfl, hm, hcp, hg⟩
      case round =>
        obtain ⟨i, m9, A9, c9, hile, rfl, rfl, hm9, hcp9, hg9⟩ := hrel
        clear hcp hg hm
        by_cases hit : i < 10
        · have ij : (i : Int) < 10 := by omega
          go_upto_region 9 with (fail)
          go_cut [13] (fun v wx => ∃ R d : Nat, v = .pointer (some ⟨R, 0, none⟩) ∧ Hid (wx.heap[R]? = some (.cells #[.int .i64 2, .int .i64 0, .string (bs key), .int .i64 gen, .int .i64 g, .int .i64 n, .int .i64 i, .int .i64 z, .string (bs (digL z)), .slice (some ⟨d, 0, none⟩) 16 16] 37 (0, 0))) ∧ Hid (Z16 d wx) ∧ wr.heap.size ≤ d ∧ Hid (Gr wr wx))
          case first =>
            obtain ⟨wd, hwd⟩ : ∃ wd, wd = wr.drew := ⟨_, rfl⟩
            have hgd : Hid (Gr wr wd) := Lib.hid (by rw [hwd]; exact (Below.refl _ _).drew)
            refine wpR_region (Gr) 11 (by kernel_rfl) ?_
            (rw [← hwd]; replace hwd := Lib.hid hwd)
            refine wpR_take (i := 0) (v := ?_) (⟨fun x => Below.refl _ x, fun h1 h2 => h1.trans h2⟩) (some 26) rfl (by kernel_rfl) (by kernel_rfl) (by kernel_rfl) (by kernel_rfl) (by kernel_rfl) (fun _ _ _ h => h) (by kernel_rfl) (fun w' hw' => ?_) ?_
            rotate_left
            · go_simp; with_reducible rfl
            simp only [Act.put, List.setIfInBounds_toArray, List.set_cons_zero, List.set_cons_succ]
            refine wpR_take (i := 1) (v := ?_) (⟨fun x => Below.refl _ x, fun h1 h2 => h1.trans h2⟩) (some 27) rfl (by kernel_rfl) (by kernel_rfl) (by kernel_rfl) (by kernel_rfl) (by kernel_rfl) (fun _ _ _ h => h) (by kernel_rfl) (fun w' hw' => ?_) ?_
            rotate_left
            · go_simp; with_reducible rfl
            simp only [Act.put, List.setIfInBounds_toArray, List.set_cons_zero, List.set_cons_succ]
            refine wpR_take (i := 2) (v := ?_) (⟨fun x => Below.refl _ x, fun h1 h2 => h1.trans h2⟩) (some 28) rfl (by kernel_rfl) (by kernel_rfl) (by kernel_rfl) (by kernel_rfl) (by kernel_rfl) (fun _ _ _ h => h) (by kernel_rfl) (fun w' hw' => ?_) ?_
            rotate_left
            · go_simp; with_reducible rfl
            simp only [Act.put, List.setIfInBounds_toArray, List.set_cons_zero, List.set_cons_succ]
            refine wpR_take (i := 3) (v := ?_) (⟨fun x => Below.refl _ x, fun h1 h2 => h1.trans h2⟩) (some 29) rfl (by kernel_rfl) (by kernel_rfl) (by kernel_rfl) (by kernel_rfl) (by kernel_rfl) (fun _ _ _ h => h) (by kernel_rfl) (fun w' hw' => ?_) ?_
            rotate_left
            · go_simp; with_reducible rfl
            simp only [Act.put, List.setIfInBounds_toArray, List.set_cons_zero, List.set_cons_succ]
            refine wpR_take (i := 4) (v := ?_) (⟨fun x => Below.refl _ x, fun h1 h2 => h1.trans h2⟩) (some 30) rfl (by kernel_rfl) (by kernel_rfl) (by kernel_rfl) (by kernel_rfl) (by kernel_rfl) (fun _ _ _ h => h) (by kernel_rfl) (fun w' hw' => ?_) ?_
            rotate_left
            · go_simp; with_reducible rfl
            simp only [Act.put, List.setIfInBounds_toArray, List.set_cons_zero, List.set_cons_succ]
            refine wpR_take (i := 5) (v := ?_) (⟨fun x => Below.refl _ x, fun h1 h2 => h1.trans h2⟩) (some 31) rfl (by kernel_rfl) (by kernel_rfl) (by kernel_rfl) (by kernel_rfl) (by kernel_rfl) (fun _ _ _ h => h) (by kernel_rfl) (fun w' hw' => ?_) ?_
            rotate_left
            · go_simp; with_reducible rfl
            simp only [Act.put, List.setIfInBounds_toArray, List.set_cons_zero, List.set_cons_succ]
            refine wpR_take (i := 6) (v := ?_) (⟨fun x => Below.refl _ x, fun h1 h2 => h1.trans h2⟩) (some 32) rfl (by kernel_rfl) (by kernel_rfl) (by kernel_rfl) (by kernel_rfl) (by kernel_rfl) (fun _ _ _ h => h) (by kernel_rfl) (fun w' hw' => ?_) ?_
            rotate_left
            · go_simp; with_reducible rfl
            simp only [Act.put, List.setIfInBounds_toArray, List.set_cons_zero, List.set_cons_succ]
            refine wpR_three 7 8 10 rfl rfl rfl (by kernel_rfl) (by kernel_rfl) (by kernel_rfl) (by kernel_rfl) (fun K hK => ?_) (fun K hK => ?_) (fun K hK => ?_)
            · go_simp
              refine (digest_any z wd).mono ?_
              rintro e W7 ⟨rfl, hk7⟩
              refine hK _ _ (fun _ => hk7) ?_
              clear hK K
              have hq7 := Lib.hid (hgd.out.trans hk7)
              clear hk7
              try simp only [Act.put, List.setIfInBounds_toArray, List.set_cons_zero, List.set_cons_succ]
              refine wpR_two 8 10 rfl rfl (by kernel_rfl) (by kernel_rfl) (by kernel_rfl) (fun K hK => ?_) (fun K hK => ?_)
              · go_simp
                refine hK _ _ (fun _ => Gr.alloc _ _) ?_
                clear hK K
                obtain ⟨W8, hW8⟩ : ∃ W8, W7.alloc (.cells z16 5) = W8 := ⟨_, rfl⟩
                have hk8 : Gr W7 W8 := by rw [← hW8]; exact Gr.alloc _ _
                have hd8' : Z16 W7.heap.size W8 := by rw [← hW8]; exact heap_alloc_new _ _
                have hdb : Hid (wr.heap.size ≤ W7.heap.size) := Lib.hid (Below.size hq7.out)
                rw [hW8]
                obtain ⟨d, hde⟩ : ∃ d, W7.heap.size = d := ⟨_, rfl⟩
                rw [hde] at hd8' hdb ⊢
                have hd8 := Lib.hid hd8'
                replace hW8 := Lib.hid hW8
                clear hd8'
                replace hde := Lib.hid hde
                have hq8 := Lib.hid (hq7.out.trans hk8)
                clear hk8
                try simp only [Act.put, List.setIfInBounds_toArray, List.set_cons_zero, List.set_cons_succ]
                refine wpR_take (i := 9) (v := ?_) (⟨fun x => Below.refl _ x, fun h1 h2 => h1.trans h2⟩) (some 35) rfl (by kernel_rfl) (by kernel_rfl) (by kernel_rfl) (by kernel_rfl) (by kernel_rfl) (fun _ _ _ h => h) (by kernel_rfl) (fun w' hw' => ?_) ?_
                rotate_left
                · go_simp; with_reducible rfl
                simp only [Act.put, List.setIfInBounds_toArray, List.set_cons_zero, List.set_cons_succ]
                refine wpR_one 10 rfl (by kernel_rfl) (by kernel_rfl) (fun K hK => ?_)
                go_simp
                refine hK _ _ (fun _ => Gr.alloc _ _) ?_
                clear hK K
                obtain ⟨W10, hW10⟩ : ∃ W10, W8.alloc (.cells #[.int .i64 0, .int .i64 0, .string ⟨#[]⟩, .int .i64 0, .int .i64 0, .int .i64 0, .int .i64 0, .int .i64 0, .string ⟨#[]⟩, .slice none 0 0] 37) = W10 := ⟨_, rfl⟩
                have hk10 : Gr W8 W10 := by rw [← hW10]; exact Gr.alloc _ _
                have hR10' : W10.heap[W8.heap.size]? = some (.cells #[.int .i64 0, .int .i64 0, .string ⟨#[]⟩, .int .i64 0, .int .i64 0, .int .i64 0, .int .i64 0, .int .i64 0, .string ⟨#[]⟩, .slice none 0 0] 37 (0, 0)) := by rw [← hW10]; exact heap_alloc_new _ _
                have hRb : Hid (wr.heap.size ≤ W8.heap.size) := Lib.hid (Below.size hq8.out)
                rw [hW10]
                obtain ⟨R, hRe⟩ : ∃ R, W8.heap.size = R := ⟨_, rfl⟩
                rw [hRe] at hR10' hRb ⊢
                have hR10 := Lib.hid hR10'
                replace hW10 := Lib.hid hW10
                clear hR10'
                have hdR : Hid (d ≠ R) := Lib.hid (by have := blk_lt hd8.out; omega)
                replace hRe := Lib.hid hRe
                have hd10 := Lib.hid (show Z16 d _ from blk_below hd8.out hk10)
                have hq10 := Lib.hid (hq8.out.trans hk10)
                clear hk10
                try simp only [Act.put, List.setIfInBounds_toArray, List.set_cons_zero, List.set_cons_succ]
                refine wpR_one 11 rfl (by kernel_rfl) (by kernel_rfl) (fun K hK => ?_)
                have z0 := blk_cell (j := 0) hR10.out rfl
                have z1 := blk_cell (j := 1) hR10.out rfl
                have z2 := blk_cell (j := 2) hR10.out rfl
                have z3 := blk_cell (j := 3) hR10.out rfl
                have z4 := blk_cell (j := 4) hR10.out rfl
                have z5 := blk_cell (j := 5) hR10.out rfl
                have z6 := blk_cell (j := 6) hR10.out rfl
                have z7 := blk_cell (j := 7) hR10.out rfl
                have z8 := blk_cell (j := 8) hR10.out rfl
                have z9 := blk_cell (j := 9) hR10.out rfl
                have f0 := blk_free hR10.out 0
                have f1 := blk_free hR10.out 1
                have f2 := blk_free hR10.out 2
                have f3 := blk_free hR10.out 3
                have f4 := blk_free hR10.out 4
                have f5 := blk_free hR10.out 5
                have f6 := blk_free hR10.out 6
                have f7 := blk_free hR10.out 7
                have f8 := blk_free hR10.out 8
                have f9 := blk_free hR10.out 9
                go_simp
                refine hK _ _ (fun h => absurd h (by decide)) ?_
                clear hK K
                clear z0 f0 z1 f1 z2 f2 z3 f3 z4 f4 z5 f5 z6 f6 z7 f7 z8 f8 z9 f9
                have hX := blk_set10 hR10.out (.int .i64 2) (.int .i64 0) (.string (bs key)) (.int .i64 gen) (.int .i64 g) (.int .i64 n) (.int .i64 i) (.int .i64 z) (.string (bs (digL z))) (.slice (some ⟨d, 0, none⟩) 16 16)
                have hXg : Gr wr ((((((((((W10.setCell ⟨R, 0, none⟩ (.int .i64 2)).setCell ⟨R, 1, none⟩ (.int .i64 0)).setCell ⟨R, 2, none⟩ (.string (bs key))).setCell ⟨R, 3, none⟩ (.int .i64 gen)).setCell ⟨R, 4, none⟩ (.int .i64 g)).setCell ⟨R, 5, none⟩ (.int .i64 n)).setCell ⟨R, 6, none⟩ (.int .i64 i)).setCell ⟨R, 7, none⟩ (.int .i64 z)).setCell ⟨R, 8, none⟩ (.string (bs (digL z)))).setCell ⟨R, 9, none⟩ (.slice (some ⟨d, 0, none⟩) 16 16)) := setLo10 hq10.out hRb.out (.int .i64 2) (.int .i64 0) (.string (bs key)) (.int .i64 gen) (.int .i64 g) (.int .i64 n) (.int .i64 i) (.int .i64 z) (.string (bs (digL z))) (.slice (some ⟨d, 0, none⟩) 16 16)
                have hXd : Z16 d ((((((((((W10.setCell ⟨R, 0, none⟩ (.int .i64 2)).setCell ⟨R, 1, none⟩ (.int .i64 0)).setCell ⟨R, 2, none⟩ (.string (bs key))).setCell ⟨R, 3, none⟩ (.int .i64 gen)).setCell ⟨R, 4, none⟩ (.int .i64 g)).setCell ⟨R, 5, none⟩ (.int .i64 n)).setCell ⟨R, 6, none⟩ (.int .i64 i)).setCell ⟨R, 7, none⟩ (.int .i64 z)).setCell ⟨R, 8, none⟩ (.string (bs (digL z)))).setCell ⟨R, 9, none⟩ (.slice (some ⟨d, 0, none⟩) 16 16)) := (set10_oth hdR.out (.int .i64 2) (.int .i64 0) (.string (bs key)) (.int .i64 gen) (.int .i64 g) (.int .i64 n) (.int .i64 i) (.int .i64 z) (.string (bs (digL z))) (.slice (some ⟨d, 0, none⟩) 16 16)).trans hd10.out
                obtain ⟨wE, hwE⟩ : ∃ x, ((((((((((W10.setCell ⟨R, 0, none⟩ (.int .i64 2)).setCell ⟨R, 1, none⟩ (.int .i64 0)).setCell ⟨R, 2, none⟩ (.string (bs key))).setCell ⟨R, 3, none⟩ (.int .i64 gen)).setCell ⟨R, 4, none⟩ (.int .i64 g)).setCell ⟨R, 5, none⟩ (.int .i64 n)).setCell ⟨R, 6, none⟩ (.int .i64 i)).setCell ⟨R, 7, none⟩ (.int .i64 z)).setCell ⟨R, 8, none⟩ (.string (bs (digL z)))).setCell ⟨R, 9, none⟩ (.slice (some ⟨d, 0, none⟩) 16 16)) = x := ⟨_, rfl⟩
                rw [hwE] at hX hXg hXd ⊢
                replace hwE := Lib.hid hwE
                replace hX := Lib.hid hX
                replace hXd := Lib.hid hXd
                replace hXg := Lib.hid hXg
                try simp only [Act.put, List.setIfInBounds_toArray, List.set_cons_zero, List.set_cons_succ]
                refine wpR_done (by kernel_rfl) ?_ _
                go_wp2_with fail
                go_meet
                exact ⟨R, d, rfl, hX, hXd, hdb.out, hXg⟩
              · go_simp
                refine hK _ _ (fun _ => Gr.alloc _ _) ?_
                clear hK K
                obtain ⟨W10, hW10⟩ : ∃ W10, W7.alloc (.cells #[.int .i64 0, .int .i64 0, .string ⟨#[]⟩, .int .i64 0, .int .i64 0, .int .i64 0, .int .i64 0, .int .i64 0, .string ⟨#[]⟩, .slice none 0 0] 37) = W10 := ⟨_, rfl⟩
                have hk10 : Gr W7 W10 := by rw [← hW10]; exact Gr.alloc _ _
                have hR10' : W10.heap[W7.heap.size]? = some (.cells #[.int .i64 0, .int .i64 0, .string ⟨#[]⟩, .int .i64 0, .int .i64 0, .int .i64 0, .int .i64 0, .int .i64 0, .string ⟨#[]⟩, .slice none 0 0] 37 (0, 0)) := by rw [← hW10]; exact heap_alloc_new _ _
                have hRb : Hid (wr.heap.size ≤ W7.heap.size) := Lib.hid (Below.size hq7.out)
                rw [hW10]
                obtain ⟨R, hRe⟩ : ∃ R, W7.heap.size = R := ⟨_, rfl⟩
                rw [hRe] at hR10' hRb ⊢
                have hR10 := Lib.hid hR10'
                replace hW10 := Lib.hid hW10
                clear hR10'
                replace hRe := Lib.hid hRe
                have hq10 := Lib.hid (hq7.out.trans hk10)
                clear hk10
                try simp only [Act.put, List.setIfInBounds_toArray, List.set_cons_zero, List.set_cons_succ]
                refine wpR_one 8 rfl (by kernel_rfl) (by kernel_rfl) (fun K hK => ?_)
                go_simp
                refine hK _ _ (fun _ => Gr.alloc _ _) ?_
                clear hK K
                obtain ⟨W8, hW8⟩ : ∃ W8, W10.alloc (.cells z16 5) = W8 := ⟨_, rfl⟩
                have hk8 : Gr W10 W8 := by rw [← hW8]; exact Gr.alloc _ _
                have hd8' : Z16 W10.heap.size W8 := by rw [← hW8]; exact heap_alloc_new _ _
                have hdb : Hid (wr.heap.size ≤ W10.heap.size) := Lib.hid (Below.size hq10.out)
                rw [hW8]
                obtain ⟨d, hde⟩ : ∃ d, W10.heap.size = d := ⟨_, rfl⟩
                rw [hde] at hd8' hdb ⊢
                have hd8 := Lib.hid hd8'
                replace hW8 := Lib.hid hW8
                clear hd8'
                have hdR : Hid (d ≠ R) := Lib.hid (by have := blk_lt hR10.out; omega)
                replace hde := Lib.hid hde
                have hR8 := Lib.hid (blk_below hR10.out hk8)
                have hq8 := Lib.hid (hq10.out.trans hk8)
                clear hk8
                try simp only [Act.put, List.setIfInBounds_toArray, List.set_cons_zero, List.set_cons_succ]
                refine wpR_take (i := 9) (v := ?_) (⟨fun x => Below.refl _ x, fun h1 h2 => h1.trans h2⟩) (some 35) rfl (by kernel_rfl) (by kernel_rfl) (by kernel_rfl) (by kernel_rfl) (by kernel_rfl) (fun _ _ _ h => h) (by kernel_rfl) (fun w' hw' => ?_) ?_
                rotate_left
                · go_simp; with_reducible rfl
                simp only [Act.put, List.setIfInBounds_toArray, List.set_cons_zero, List.set_cons_succ]
                refine wpR_one 11 rfl (by kernel_rfl) (by kernel_rfl) (fun K hK => ?_)
                have z0 := blk_cell (j := 0) hR8.out rfl
                have z1 := blk_cell (j := 1) hR8.out rfl
                have z2 := blk_cell (j := 2) hR8.out rfl
                have z3 := blk_cell (j := 3) hR8.out rfl
                have z4 := blk_cell (j := 4) hR8.out rfl
                have z5 := blk_cell (j := 5) hR8.out rfl
                have z6 := blk_cell (j := 6) hR8.out rfl
                have z7 := blk_cell (j := 7) hR8.out rfl
                have z8 := blk_cell (j := 8) hR8.out rfl
                have z9 := blk_cell (j := 9) hR8.out rfl
                have f0 := blk_free hR8.out 0
                have f1 := blk_free hR8.out 1
                have f2 := blk_free hR8.out 2
                have f3 := blk_free hR8.out 3
                have f4 := blk_free hR8.out 4
                have f5 := blk_free hR8.out 5
                have f6 := blk_free hR8.out 6
                have f7 := blk_free hR8.out 7
                have f8 := blk_free hR8.out 8
                have f9 := blk_free hR8.out 9
                go_simp
                refine hK _ _ (fun h => absurd h (by decide)) ?_
                clear hK K
                clear z0 f0 z1 f1 z2 f2 z3 f3 z4 f4 z5 f5 z6 f6 z7 f7 z8 f8 z9 f9
                have hX := blk_set10 hR8.out (.int .i64 2) (.int .i64 0) (.string (bs key)) (.int .i64 gen) (.int .i64 g) (.int .i64 n) (.int .i64 i) (.int .i64 z) (.string (bs (digL z))) (.slice (some ⟨d, 0, none⟩) 16 16)
                have hXg : Gr wr ((((((((((W8.setCell ⟨R, 0, none⟩ (.int .i64 2)).setCell ⟨R, 1, none⟩ (.int .i64 0)).setCell ⟨R, 2, none⟩ (.string (bs key))).setCell ⟨R, 3, none⟩ (.int .i64 gen)).setCell ⟨R, 4, none⟩ (.int .i64 g)).setCell ⟨R, 5, none⟩ (.int .i64 n)).setCell ⟨R, 6, none⟩ (.int .i64 i)).setCell ⟨R, 7, none⟩ (.int .i64 z)).setCell ⟨R, 8, none⟩ (.string (bs (digL z)))).setCell ⟨R, 9, none⟩ (.slice (some ⟨d, 0, none⟩) 16 16)) := setLo10 hq8.out hRb.out (.int .i64 2) (.int .i64 0) (.string (bs key)) (.int .i64 gen) (.int .i64 g) (.int .i64 n) (.int .i64 i) (.int .i64 z) (.string (bs (digL z))) (.slice (some ⟨d, 0, none⟩) 16 16)
                have hXd : Z16 d ((((((((((W8.setCell ⟨R, 0, none⟩ (.int .i64 2)).setCell ⟨R, 1, none⟩ (.int .i64 0)).setCell ⟨R, 2, none⟩ (.string (bs key))).setCell ⟨R, 3, none⟩ (.int .i64 gen)).setCell ⟨R, 4, none⟩ (.int .i64 g)).setCell ⟨R, 5, none⟩ (.int .i64 n)).setCell ⟨R, 6, none⟩ (.int .i64 i)).setCell ⟨R, 7, none⟩ (.int .i64 z)).setCell ⟨R, 8, none⟩ (.string (bs (digL z)))).setCell ⟨R, 9, none⟩ (.slice (some ⟨d, 0, none⟩) 16 16)) := (set10_oth hdR.out (.int .i64 2) (.int .i64 0) (.string (bs key)) (.int .i64 gen) (.int .i64 g) (.int .i64 n) (.int .i64 i) (.int .i64 z) (.string (bs (digL z))) (.slice (some ⟨d, 0, none⟩) 16 16)).trans hd8.out
                obtain ⟨wE, hwE⟩ : ∃ x, ((((((((((W8.setCell ⟨R, 0, none⟩ (.int .i64 2)).setCell ⟨R, 1, none⟩ (.int .i64 0)).setCell ⟨R, 2, none⟩ (.string (bs key))).setCell ⟨R, 3, none⟩ (.int .i64 gen)).setCell ⟨R, 4, none⟩ (.int .i64 g)).setCell ⟨R, 5, none⟩ (.int .i64 n)).setCell ⟨R, 6, none⟩ (.int .i64 i)).setCell ⟨R, 7, none⟩ (.int .i64 z)).setCell ⟨R, 8, none⟩ (.string (bs (digL z)))).setCell ⟨R, 9, none⟩ (.slice (some ⟨d, 0, none⟩) 16 16)) = x := ⟨_, rfl⟩
                rw [hwE] at hX hXg hXd ⊢
                replace hwE := Lib.hid hwE
                replace hX := Lib.hid hX
                replace hXd := Lib.hid hXd
                replace hXg := Lib.hid hXg
                try simp only [Act.put, List.setIfInBounds_toArray, List.set_cons_zero, List.set_cons_succ]
                refine wpR_done (by kernel_rfl) ?_ _
                go_wp2_with fail
                go_meet
                exact ⟨R, d, rfl, hX, hXd, hdb.out, hXg⟩
            · go_simp
              refine hK _ _ (fun _ => Gr.alloc _ _) ?_
              clear hK K
              obtain ⟨W8, hW8⟩ : ∃ W8, wd.alloc (.cells z16 5) = W8 := ⟨_, rfl⟩
              have hk8 : Gr wd W8 := by rw [← hW8]; exact Gr.alloc _ _
              have hd8' : Z16 wd.heap.size W8 := by rw [← hW8]; exact heap_alloc_new _ _
              have hdb : Hid (wr.heap.size ≤ wd.heap.size) := Lib.hid (Below.size hgd.out)
              rw [hW8]
              obtain ⟨d, hde⟩ : ∃ d, wd.heap.size = d := ⟨_, rfl⟩
              rw [hde] at hd8' hdb ⊢
              have hd8 := Lib.hid hd8'
              replace hW8 := Lib.hid hW8
              clear hd8'
              replace hde := Lib.hid hde
              have hq8 := Lib.hid (hgd.out.trans hk8)
              clear hk8
              try simp only [Act.put, List.setIfInBounds_toArray, List.set_cons_zero, List.set_cons_succ]
              refine wpR_two 7 10 rfl rfl (by kernel_rfl) (by kernel_rfl) (by kernel_rfl) (fun K hK => ?_) (fun K hK => ?_)
              · go_simp
                refine (digest_any z W8).mono ?_
                rintro e W7 ⟨rfl, hk7⟩
                refine hK _ _ (fun _ => hk7) ?_
                clear hK K
                have hd7 := Lib.hid (show Z16 d _ from blk_below hd8.out hk7)
                have hq7 := Lib.hid (hq8.out.trans hk7)
                clear hk7
                try simp only [Act.put, List.setIfInBounds_toArray, List.set_cons_zero, List.set_cons_succ]
                refine wpR_take (i := 9) (v := ?_) (⟨fun x => Below.refl _ x, fun h1 h2 => h1.trans h2⟩) (some 35) rfl (by kernel_rfl) (by kernel_rfl) (by kernel_rfl) (by kernel_rfl) (by kernel_rfl) (fun _ _ _ h => h) (by kernel_rfl) (fun w' hw' => ?_) ?_
                rotate_left
                · go_simp; with_reducible rfl
                simp only [Act.put, List.setIfInBounds_toArray, List.set_cons_zero, List.set_cons_succ]
                refine wpR_one 10 rfl (by kernel_rfl) (by kernel_rfl) (fun K hK => ?_)
                go_simp
                refine hK _ _ (fun _ => Gr.alloc _ _) ?_
                clear hK K
                obtain ⟨W10, hW10⟩ : ∃ W10, W7.alloc (.cells #[.int .i64 0, .int .i64 0, .string ⟨#[]⟩, .int .i64 0, .int .i64 0, .int .i64 0, .int .i64 0, .int .i64 0, .string ⟨#[]⟩, .slice none 0 0] 37) = W10 := ⟨_, rfl⟩
                have hk10 : Gr W7 W10 := by rw [← hW10]; exact Gr.alloc _ _
                have hR10' : W10.heap[W7.heap.size]? = some (.cells #[.int .i64 0, .int .i64 0, .string ⟨#[]⟩, .int .i64 0, .int .i64 0, .int .i64 0, .int .i64 0, .int .i64 0, .string ⟨#[]⟩, .slice none 0 0] 37 (0, 0)) := by rw [← hW10]; exact heap_alloc_new _ _
                have hRb : Hid (wr.heap.size ≤ W7.heap.size) := Lib.hid (Below.size hq7.out)
                rw [hW10]
                obtain ⟨R, hRe⟩ : ∃ R, W7.heap.size = R := ⟨_, rfl⟩
                rw [hRe] at hR10' hRb ⊢
                have hR10 := Lib.hid hR10'
                replace hW10 := Lib.hid hW10
                clear hR10'
                have hdR : Hid (d ≠ R) := Lib.hid (by have := blk_lt hd7.out; omega)
                replace hRe := Lib.hid hRe
                have hd10 := Lib.hid (show Z16 d _ from blk_below hd7.out hk10)
                have hq10 := Lib.hid (hq7.out.trans hk10)
                clear hk10
                try simp only [Act.put, List.setIfInBounds_toArray, List.set_cons_zero, List.set_cons_succ]
                refine wpR_one 11 rfl (by kernel_rfl) (by kernel_rfl) (fun K hK => ?_)
                have z0 := blk_cell (j := 0) hR10.out rfl
                have z1 := blk_cell (j := 1) hR10.out rfl
                have z2 := blk_cell (j := 2) hR10.out rfl
                have z3 := blk_cell (j := 3) hR10.out rfl
                have z4 := blk_cell (j := 4) hR10.out rfl
                have z5 := blk_cell (j := 5) hR10.out rfl
                have z6 := blk_cell (j := 6) hR10.out rfl
                have z7 := blk_cell (j := 7) hR10.out rfl
                have z8 := blk_cell (j := 8) hR10.out rfl
                have z9 := blk_cell (j := 9) hR10.out rfl
                have f0 := blk_free hR10.out 0
                have f1 := blk_free hR10.out 1
                have f2 := blk_free hR10.out 2
                have f3 := blk_free hR10.out 3
                have f4 := blk_free hR10.out 4
                have f5 := blk_free hR10.out 5
                have f6 := blk_free hR10.out 6
                have f7 := blk_free hR10.out 7
                have f8 := blk_free hR10.out 8
                have f9 := blk_free hR10.out 9
                go_simp
                refine hK _ _ (fun h => absurd h (by decide)) ?_
                clear hK K
                clear z0 f0 z1 f1 z2 f2 z3 f3 z4 f4 z5 f5 z6 f6 z7 f7 z8 f8 z9 f9
                have hX := blk_set10 hR10.out (.int .i64 2) (.int .i64 0) (.string (bs key)) (.int .i64 gen) (.int .i64 g) (.int .i64 n) (.int .i64 i) (.int .i64 z) (.string (bs (digL z))) (.slice (some ⟨d, 0, none⟩) 16 16)
                have hXg : Gr wr ((((((((((W10.setCell ⟨R, 0, none⟩ (.int .i64 2)).setCell ⟨R, 1, none⟩ (.int .i64 0)).setCell ⟨R, 2, none⟩ (.string (bs key))).setCell ⟨R, 3, none⟩ (.int .i64 gen)).setCell ⟨R, 4, none⟩ (.int .i64 g)).setCell ⟨R, 5, none⟩ (.int .i64 n)).setCell ⟨R, 6, none⟩ (.int .i64 i)).setCell ⟨R, 7, none⟩ (.int .i64 z)).setCell ⟨R, 8, none⟩ (.string (bs (digL z)))).setCell ⟨R, 9, none⟩ (.slice (some ⟨d, 0, none⟩) 16 16)) := setLo10 hq10.out hRb.out (.int .i64 2) (.int .i64 0) (.string (bs key)) (.int .i64 gen) (.int .i64 g) (.int .i64 n) (.int .i64 i) (.int .i64 z) (.string (bs (digL z))) (.slice (some ⟨d, 0, none⟩) 16 16)
                have hXd : Z16 d ((((((((((W10.setCell ⟨R, 0, none⟩ (.int .i64 2)).setCell ⟨R, 1, none⟩ (.int .i64 0)).setCell ⟨R, 2, none⟩ (.string (bs key))).setCell ⟨R, 3, none⟩ (.int .i64 gen)).setCell ⟨R, 4, none⟩ (.int .i64 g)).setCell ⟨R, 5, none⟩ (.int .i64 n)).setCell ⟨R, 6, none⟩ (.int .i64 i)).setCell ⟨R, 7, none⟩ (.int .i64 z)).setCell ⟨R, 8, none⟩ (.string (bs (digL z)))).setCell ⟨R, 9, none⟩ (.slice (some ⟨d, 0, none⟩) 16 16)) := (set10_oth hdR.out (.int .i64 2) (.int .i64 0) (.string (bs key)) (.int .i64 gen) (.int .i64 g) (.int .i64 n) (.int .i64 i) (.int .i64 z) (.string (bs (digL z))) (.slice (some ⟨d, 0, none⟩) 16 16)).trans hd10.out
                obtain ⟨wE, hwE⟩ : ∃ x, ((((((((((W10.setCell ⟨R, 0, none⟩ (.int .i64 2)).setCell ⟨R, 1, none⟩ (.int .i64 0)).setCell ⟨R, 2, none⟩ (.string (bs key))).setCell ⟨R, 3, none⟩ (.int .i64 gen)).setCell ⟨R, 4, none⟩ (.int .i64 g)).setCell ⟨R, 5, none⟩ (.int .i64 n)).setCell ⟨R, 6, none⟩ (.int .i64 i)).setCell ⟨R, 7, none⟩ (.int .i64 z)).setCell ⟨R, 8, none⟩ (.string (bs (digL z)))).setCell ⟨R, 9, none⟩ (.slice (some ⟨d, 0, none⟩) 16 16)) = x := ⟨_, rfl⟩
                rw [hwE] at hX hXg hXd ⊢
                replace hwE := Lib.hid hwE
                replace hX := Lib.hid hX
                replace hXd := Lib.hid hXd
                replace hXg := Lib.hid hXg
                try simp only [Act.put, List.setIfInBounds_toArray, List.set_cons_zero, List.set_cons_succ]
                refine wpR_done (by kernel_rfl) ?_ _
                go_wp2_with fail
                go_meet
                exact ⟨R, d, rfl, hX, hXd, hdb.out, hXg⟩
              · go_simp
                refine hK _ _ (fun _ => Gr.alloc _ _) ?_
                clear hK K
                obtain ⟨W10, hW10⟩ : ∃ W10, W8.alloc (.cells #[.int .i64 0, .int .i64 0, .string ⟨#[]⟩, .int .i64 0, .int .i64 0, .int .i64 0, .int .i64 0, .int .i64 0, .string ⟨#[]⟩, .slice none 0 0] 37) = W10 := ⟨_, rfl⟩
                have hk10 : Gr W8 W10 := by rw [← hW10]; exact Gr.alloc _ _
                have hR10' : W10.heap[W8.heap.size]? = some (.cells #[.int .i64 0, .int .i64 0, .string ⟨#[]⟩, .int .i64 0, .int .i64 0, .int .i64 0, .int .i64 0, .int .i64 0, .string ⟨#[]⟩, .slice none 0 0] 37 (0, 0)) := by rw [← hW10]; exact heap_alloc_new _ _
                have hRb : Hid (wr.heap.size ≤ W8.heap.size) := Lib.hid (Below.size hq8.out)
                rw [hW10]
                obtain ⟨R, hRe⟩ : ∃ R, W8.heap.size = R := ⟨_, rfl⟩
                rw [hRe] at hR10' hRb ⊢
                have hR10 := Lib.hid hR10'
                replace hW10 := Lib.hid hW10
                clear hR10'
                have hdR : Hid (d ≠ R) := Lib.hid (by have := blk_lt hd8.out; omega)
                replace hRe := Lib.hid hRe
                have hd10 := Lib.hid (show Z16 d _ from blk_below hd8.out hk10)
                have hq10 := Lib.hid (hq8.out.trans hk10)
                clear hk10
                try simp only [Act.put, List.setIfInBounds_toArray, List.set_cons_zero, List.set_cons_succ]
                refine wpR_one 7 rfl (by kernel_rfl) (by kernel_rfl) (fun K hK => ?_)
                go_simp
                refine (digest_any z W10).mono ?_
                rintro e W7 ⟨rfl, hk7⟩
                refine hK _ _ (fun _ => hk7) ?_
                clear hK K
                have hd7 := Lib.hid (show Z16 d _ from blk_below hd10.out hk7)
                have hR7 := Lib.hid (blk_below hR10.out hk7)
                have hq7 := Lib.hid (hq10.out.trans hk7)
                clear hk7
                try simp only [Act.put, List.setIfInBounds_toArray, List.set_cons_zero, List.set_cons_succ]
                refine wpR_take (i := 9) (v := ?_) (⟨fun x => Below.refl _ x, fun h1 h2 => h1.trans h2⟩) (some 35) rfl (by kernel_rfl) (by kernel_rfl) (by kernel_rfl) (by kernel_rfl) (by kernel_rfl) (fun _ _ _ h => h) (by kernel_rfl) (fun w' hw' => ?_) ?_
                rotate_left
                · go_simp; with_reducible rfl
                simp only [Act.put, List.setIfInBounds_toArray, List.set_cons_zero, List.set_cons_succ]
                refine wpR_one 11 rfl (by kernel_rfl) (by kernel_rfl) (fun K hK => ?_)
                have z0 := blk_cell (j := 0) hR7.out rfl
                have z1 := blk_cell (j := 1) hR7.out rfl
                have z2 := blk_cell (j := 2) hR7.out rfl
                have z3 := blk_cell (j := 3) hR7.out rfl
                have z4 := blk_cell (j := 4) hR7.out rfl
                have z5 := blk_cell (j := 5) hR7.out rfl
                have z6 := blk_cell (j := 6) hR7.out rfl
                have z7 := blk_cell (j := 7) hR7.out rfl
                have z8 := blk_cell (j := 8) hR7.out rfl
                have z9 := blk_cell (j := 9) hR7.out rfl
                have f0 := blk_free hR7.out 0
                have f1 := blk_free hR7.out 1
                have f2 := blk_free hR7.out 2
                have f3 := blk_free hR7.out 3
                have f4 := blk_free hR7.out 4
                have f5 := blk_free hR7.out 5
                have f6 := blk_free hR7.out 6
                have f7 := blk_free hR7.out 7
                have f8 := blk_free hR7.out 8
                have f9 := blk_free hR7.out 9
                go_simp
                refine hK _ _ (fun h => absurd h (by decide)) ?_
                clear hK K
                clear z0 f0 z1 f1 z2 f2 z3 f3 z4 f4 z5 f5 z6 f6 z7 f7 z8 f8 z9 f9
                have hX := blk_set10 hR7.out (.int .i64 2) (.int .i64 0) (.string (bs key)) (.int .i64 gen) (.int .i64 g) (.int .i64 n) (.int .i64 i) (.int .i64 z) (.string (bs (digL z))) (.slice (some ⟨d, 0, none⟩) 16 16)
                have hXg : Gr wr ((((((((((W7.setCell ⟨R, 0, none⟩ (.int .i64 2)).setCell ⟨R, 1, none⟩ (.int .i64 0)).setCell ⟨R, 2, none⟩ (.string (bs key))).setCell ⟨R, 3, none⟩ (.int .i64 gen)).setCell ⟨R, 4, none⟩ (.int .i64 g)).setCell ⟨R, 5, none⟩ (.int .i64 n)).setCell ⟨R, 6, none⟩ (.int .i64 i)).setCell ⟨R, 7, none⟩ (.int .i64 z)).setCell ⟨R, 8, none⟩ (.string (bs (digL z)))).setCell ⟨R, 9, none⟩ (.slice (some ⟨d, 0, none⟩) 16 16)) := setLo10 hq7.out hRb.out (.int .i64 2) (.int .i64 0) (.string (bs key)) (.int .i64 gen) (.int .i64 g) (.int .i64 n) (.int .i64 i) (.int .i64 z) (.string (bs (digL z))) (.slice (some ⟨d, 0, none⟩) 16 16)
                have hXd : Z16 d ((((((((((W7.setCell ⟨R, 0, none⟩ (.int .i64 2)).setCell ⟨R, 1, none⟩ (.int .i64 0)).setCell ⟨R, 2, none⟩ (.string (bs key))).setCell ⟨R, 3, none⟩ (.int .i64 gen)).setCell ⟨R, 4, none⟩ (.int .i64 g)).setCell ⟨R, 5, none⟩ (.int .i64 n)).setCell ⟨R, 6, none⟩ (.int .i64 i)).setCell ⟨R, 7, none⟩ (.int .i64 z)).setCell ⟨R, 8, none⟩ (.string (bs (digL z)))).setCell ⟨R, 9, none⟩ (.slice (some ⟨d, 0, none⟩) 16 16)) := (set10_oth hdR.out (.int .i64 2) (.int .i64 0) (.string (bs key)) (.int .i64 gen) (.int .i64 g) (.int .i64 n) (.int .i64 i) (.int .i64 z) (.string (bs (digL z))) (.slice (some ⟨d, 0, none⟩) 16 16)).trans hd7.out
                obtain ⟨wE, hwE⟩ : ∃ x, ((((((((((W7.setCell ⟨R, 0, none⟩ (.int .i64 2)).setCell ⟨R, 1, none⟩ (.int .i64 0)).setCell ⟨R, 2, none⟩ (.string (bs key))).setCell ⟨R, 3, none⟩ (.int .i64 gen)).setCell ⟨R, 4, none⟩ (.int .i64 g)).setCell ⟨R, 5, none⟩ (.int .i64 n)).setCell ⟨R, 6, none⟩ (.int .i64 i)).setCell ⟨R, 7, none⟩ (.int .i64 z)).setCell ⟨R, 8, none⟩ (.string (bs (digL z)))).setCell ⟨R, 9, none⟩ (.slice (some ⟨d, 0, none⟩) 16 16)) = x := ⟨_, rfl⟩
                rw [hwE] at hX hXg hXd ⊢
                replace hwE := Lib.hid hwE
                replace hX := Lib.hid hX
                replace hXd := Lib.hid hXd
                replace hXg := Lib.hid hXg
                try simp only [Act.put, List.setIfInBounds_toArray, List.set_cons_zero, List.set_cons_succ]
                refine wpR_done (by kernel_rfl) ?_ _
                go_wp2_with fail
                go_meet
                exact ⟨R, d, rfl, hX, hXd, hdb.out, hXg⟩
            · go_simp
              refine hK _ _ (fun _ => Gr.alloc _ _) ?_
              clear hK K
              obtain ⟨W10, hW10⟩ : ∃ W10, wd.alloc (.cells #[.int .i64 0, .int .i64 0, .string ⟨#[]⟩, .int .i64 0, .int .i64 0, .int .i64 0, .int .i64 0, .int .i64 0, .string ⟨#[]⟩, .slice none 0 0] 37) = W10 := ⟨_, rfl⟩
              have hk10 : Gr wd W10 := by rw [← hW10]; exact Gr.alloc _ _
              have hR10' : W10.heap[wd.heap.size]? = some (.cells #[.int .i64 0, .int .i64 0, .string ⟨#[]⟩, .int .i64 0, .int .i64 0, .int .i64 0, .int .i64 0, .int .i64 0, .string ⟨#[]⟩, .slice none 0 0] 37 (0, 0)) := by rw [← hW10]; exact heap_alloc_new _ _
              have hRb : Hid (wr.heap.size ≤ wd.heap.size) := Lib.hid (Below.size hgd.out)
              rw [hW10]
              obtain ⟨R, hRe⟩ : ∃ R, wd.heap.size = R := ⟨_, rfl⟩
              rw [hRe] at hR10' hRb ⊢
              have hR10 := Lib.hid hR10'
              replace hW10 := Lib.hid hW10
              clear hR10'
              replace hRe := Lib.hid hRe
              have hq10 := Lib.hid (hgd.out.trans hk10)
              clear hk10
              try simp only [Act.put, List.setIfInBounds_toArray, List.set_cons_zero, List.set_cons_succ]
              refine wpR_two 7 8 rfl rfl (by kernel_rfl) (by kernel_rfl) (by kernel_rfl) (fun K hK => ?_) (fun K hK => ?_)
              · go_simp
                refine (digest_any z W10).mono ?_
                rintro e W7 ⟨rfl, hk7⟩
                refine hK _ _ (fun _ => hk7) ?_
                clear hK K
                have hR7 := Lib.hid (blk_below hR10.out hk7)
                have hq7 := Lib.hid (hq10.out.trans hk7)
                clear hk7
                try simp only [Act.put, List.setIfInBounds_toArray, List.set_cons_zero, List.set_cons_succ]
                refine wpR_one 8 rfl (by kernel_rfl) (by kernel_rfl) (fun K hK => ?_)
                go_simp
                refine hK _ _ (fun _ => Gr.alloc _ _) ?_
                clear hK K
                obtain ⟨W8, hW8⟩ : ∃ W8, W7.alloc (.cells z16 5) = W8 := ⟨_, rfl⟩
                have hk8 : Gr W7 W8 := by rw [← hW8]; exact Gr.alloc _ _
                have hd8' : Z16 W7.heap.size W8 := by rw [← hW8]; exact heap_alloc_new _ _
                have hdb : Hid (wr.heap.size ≤ W7.heap.size) := Lib.hid (Below.size hq7.out)
                rw [hW8]
                obtain ⟨d, hde⟩ : ∃ d, W7.heap.size = d := ⟨_, rfl⟩
                rw [hde] at hd8' hdb ⊢
                have hd8 := Lib.hid hd8'
                replace hW8 := Lib.hid hW8
                clear hd8'
                have hdR : Hid (d ≠ R) := Lib.hid (by have := blk_lt hR7.out; omega)
                replace hde := Lib.hid hde
                have hR8 := Lib.hid (blk_below hR7.out hk8)
                have hq8 := Lib.hid (hq7.out.trans hk8)
                clear hk8
                try simp only [Act.put, List.setIfInBounds_toArray, List.set_cons_zero, List.set_cons_succ]
                refine wpR_take (i := 9) (v := ?_) (⟨fun x => Below.refl _ x, fun h1 h2 => h1.trans h2⟩) (some 35) rfl (by kernel_rfl) (by kernel_rfl) (by kernel_rfl) (by kernel_rfl) (by kernel_rfl) (fun _ _ _ h => h) (by kernel_rfl) (fun w' hw' => ?_) ?_
                rotate_left
                · go_simp; with_reducible rfl
                simp only [Act.put, List.setIfInBounds_toArray, List.set_cons_zero, List.set_cons_succ]
                refine wpR_one 11 rfl (by kernel_rfl) (by kernel_rfl) (fun K hK => ?_)
                have z0 := blk_cell (j := 0) hR8.out rfl
                have z1 := blk_cell (j := 1) hR8.out rfl
                have z2 := blk_cell (j := 2) hR8.out rfl
                have z3 := blk_cell (j := 3) hR8.out rfl
                have z4 := blk_cell (j := 4) hR8.out rfl
                have z5 := blk_cell (j := 5) hR8.out rfl
                have z6 := blk_cell (j := 6) hR8.out rfl
                have z7 := blk_cell (j := 7) hR8.out rfl
                have z8 := blk_cell (j := 8) hR8.out rfl
                have z9 := blk_cell (j := 9) hR8.out rfl
                have f0 := blk_free hR8.out 0
                have f1 := blk_free hR8.out 1
                have f2 := blk_free hR8.out 2
                have f3 := blk_free hR8.out 3
                have f4 := blk_free hR8.out 4
                have f5 := blk_free hR8.out 5
                have f6 := blk_free hR8.out 6
                have f7 := blk_free hR8.out 7
                have f8 := blk_free hR8.out 8
                have f9 := blk_free hR8.out 9
                go_simp
                refine hK _ _ (fun h => absurd h (by decide)) ?_
                clear hK K
                clear z0 f0 z1 f1 z2 f2 z3 f3 z4 f4 z5 f5 z6 f6 z7 f7 z8 f8 z9 f9
                have hX := blk_set10 hR8.out (.int .i64 2) (.int .i64 0) (.string (bs key)) (.int .i64 gen) (.int .i64 g) (.int .i64 n) (.int .i64 i) (.int .i64 z) (.string (bs (digL z))) (.slice (some ⟨d, 0, none⟩) 16 16)
                have hXg : Gr wr ((((((((((W8.setCell ⟨R, 0, none⟩ (.int .i64 2)).setCell ⟨R, 1, none⟩ (.int .i64 0)).setCell ⟨R, 2, none⟩ (.string (bs key))).setCell ⟨R, 3, none⟩ (.int .i64 gen)).setCell ⟨R, 4, none⟩ (.int .i64 g)).setCell ⟨R, 5, none⟩ (.int .i64 n)).setCell ⟨R, 6, none⟩ (.int .i64 i)).setCell ⟨R, 7, none⟩ (.int .i64 z)).setCell ⟨R, 8, none⟩ (.string (bs (digL z)))).setCell ⟨R, 9, none⟩ (.slice (some ⟨d, 0, none⟩) 16 16)) := setLo10 hq8.out hRb.out (.int .i64 2) (.int .i64 0) (.string (bs key)) (.int .i64 gen) (.int .i64 g) (.int .i64 n) (.int .i64 i) (.int .i64 z) (.string (bs (digL z))) (.slice (some ⟨d, 0, none⟩) 16 16)
                have hXd : Z16 d ((((((((((W8.setCell ⟨R, 0, none⟩ (.int .i64 2)).setCell ⟨R, 1, none⟩ (.int .i64 0)).setCell ⟨R, 2, none⟩ (.string (bs key))).setCell ⟨R, 3, none⟩ (.int .i64 gen)).setCell ⟨R, 4, none⟩ (.int .i64 g)).setCell ⟨R, 5, none⟩ (.int .i64 n)).setCell ⟨R, 6, none⟩ (.int .i64 i)).setCell ⟨R, 7, none⟩ (.int .i64 z)).setCell ⟨R, 8, none⟩ (.string (bs (digL z)))).setCell ⟨R, 9, none⟩ (.slice (some ⟨d, 0, none⟩) 16 16)) := (set10_oth hdR.out (.int .i64 2) (.int .i64 0) (.string (bs key)) (.int .i64 gen) (.int .i64 g) (.int .i64 n) (.int .i64 i) (.int .i64 z) (.string (bs (digL z))) (.slice (some ⟨d, 0, none⟩) 16 16)).trans hd8.out
                obtain ⟨wE, hwE⟩ : ∃ x, ((((((((((W8.setCell ⟨R, 0, none⟩ (.int .i64 2)).setCell ⟨R, 1, none⟩ (.int .i64 0)).setCell ⟨R, 2, none⟩ (.string (bs key))).setCell ⟨R, 3, none⟩ (.int .i64 gen)).setCell ⟨R, 4, none⟩ (.int .i64 g)).setCell ⟨R, 5, none⟩ (.int .i64 n)).setCell ⟨R, 6, none⟩ (.int .i64 i)).setCell ⟨R, 7, none⟩ (.int .i64 z)).setCell ⟨R, 8, none⟩ (.string (bs (digL z)))).setCell ⟨R, 9, none⟩ (.slice (some ⟨d, 0, none⟩) 16 16)) = x := ⟨_, rfl⟩
                rw [hwE] at hX hXg hXd ⊢
                replace hwE := Lib.hid hwE
                replace hX := Lib.hid hX
                replace hXd := Lib.hid hXd
                replace hXg := Lib.hid hXg
                try simp only [Act.put, List.setIfInBounds_toArray, List.set_cons_zero, List.set_cons_succ]
                refine wpR_done (by kernel_rfl) ?_ _
                go_wp2_with fail
                go_meet
                exact ⟨R, d, rfl, hX, hXd, hdb.out, hXg⟩
              · go_simp
                refine hK _ _ (fun _ => Gr.alloc _ _) ?_
                clear hK K
                obtain ⟨W8, hW8⟩ : ∃ W8, W10.alloc (.cells z16 5) = W8 := ⟨_, rfl⟩
                have hk8 : Gr W10 W8 := by rw [← hW8]; exact Gr.alloc _ _
                have hd8' : Z16 W10.heap.size W8 := by rw [← hW8]; exact heap_alloc_new _ _
                have hdb : Hid (wr.heap.size ≤ W10.heap.size) := Lib.hid (Below.size hq10.out)
                rw [hW8]
                obtain ⟨d, hde⟩ : ∃ d, W10.heap.size = d := ⟨_, rfl⟩
                rw [hde] at hd8' hdb ⊢
                have hd8 := Lib.hid hd8'
                replace hW8 := Lib.hid hW8
                clear hd8'
                have hdR : Hid (d ≠ R) := Lib.hid (by have := blk_lt hR10.out; omega)
                replace hde := Lib.hid hde
                have hR8 := Lib.hid (blk_below hR10.out hk8)
                have hq8 := Lib.hid (hq10.out.trans hk8)
                clear hk8
                try simp only [Act.put, List.setIfInBounds_toArray, List.set_cons_zero, List.set_cons_succ]
                refine wpR_one 7 rfl (by kernel_rfl) (by kernel_rfl) (fun K hK => ?_)
                go_simp
                refine (digest_any z W8).mono ?_
                rintro e W7 ⟨rfl, hk7⟩
                refine hK _ _ (fun _ => hk7) ?_
                clear hK K
                have hd7 := Lib.hid (show Z16 d _ from blk_below hd8.out hk7)
                have hR7 := Lib.hid (blk_below hR8.out hk7)
                have hq7 := Lib.hid (hq8.out.trans hk7)
                clear hk7
                try simp only [Act.put, List.setIfInBounds_toArray, List.set_cons_zero, List.set_cons_succ]
                refine wpR_take (i := 9) (v := ?_) (⟨fun x => Below.refl _ x, fun h1 h2 => h1.trans h2⟩) (some 35) rfl (by kernel_rfl) (by kernel_rfl) (by kernel_rfl) (by kernel_rfl) (by kernel_rfl) (fun _ _ _ h => h) (by kernel_rfl) (fun w' hw' => ?_) ?_
                rotate_left
                · go_simp; with_reducible rfl
                simp only [Act.put, List.setIfInBounds_toArray, List.set_cons_zero, List.set_cons_succ]
                refine wpR_one 11 rfl (by kernel_rfl) (by kernel_rfl) (fun K hK => ?_)
                have z0 := blk_cell (j := 0) hR7.out rfl
                have z1 := blk_cell (j := 1) hR7.out rfl
                have z2 := blk_cell (j := 2) hR7.out rfl
                have z3 := blk_cell (j := 3) hR7.out rfl
                have z4 := blk_cell (j := 4) hR7.out rfl
                have z5 := blk_cell (j := 5) hR7.out rfl
                have z6 := blk_cell (j := 6) hR7.out rfl
                have z7 := blk_cell (j := 7) hR7.out rfl
                have z8 := blk_cell (j := 8) hR7.out rfl
                have z9 := blk_cell (j := 9) hR7.out rfl
                have f0 := blk_free hR7.out 0
                have f1 := blk_free hR7.out 1
                have f2 := blk_free hR7.out 2
                have f3 := blk_free hR7.out 3
                have f4 := blk_free hR7.out 4
                have f5 := blk_free hR7.out 5
                have f6 := blk_free hR7.out 6
                have f7 := blk_free hR7.out 7
                have f8 := blk_free hR7.out 8
                have f9 := blk_free hR7.out 9
                go_simp
                refine hK _ _ (fun h => absurd h (by decide)) ?_
                clear hK K
                clear z0 f0 z1 f1 z2 f2 z3 f3 z4 f4 z5 f5 z6 f6 z7 f7 z8 f8 z9 f9
                have hX := blk_set10 hR7.out (.int .i64 2) (.int .i64 0) (.string (bs key)) (.int .i64 gen) (.int .i64 g) (.int .i64 n) (.int .i64 i) (.int .i64 z) (.string (bs (digL z))) (.slice (some ⟨d, 0, none⟩) 16 16)
                have hXg : Gr wr ((((((((((W7.setCell ⟨R, 0, none⟩ (.int .i64 2)).setCell ⟨R, 1, none⟩ (.int .i64 0)).setCell ⟨R, 2, none⟩ (.string (bs key))).setCell ⟨R, 3, none⟩ (.int .i64 gen)).setCell ⟨R, 4, none⟩ (.int .i64 g)).setCell ⟨R, 5, none⟩ (.int .i64 n)).setCell ⟨R, 6, none⟩ (.int .i64 i)).setCell ⟨R, 7, none⟩ (.int .i64 z)).setCell ⟨R, 8, none⟩ (.string (bs (digL z)))).setCell ⟨R, 9, none⟩ (.slice (some ⟨d, 0, none⟩) 16 16)) := setLo10 hq7.out hRb.out (.int .i64 2) (.int .i64 0) (.string (bs key)) (.int .i64 gen) (.int .i64 g) (.int .i64 n) (.int .i64 i) (.int .i64 z) (.string (bs (digL z))) (.slice (some ⟨d, 0, none⟩) 16 16)
                have hXd : Z16 d ((((((((((W7.setCell ⟨R, 0, none⟩ (.int .i64 2)).setCell ⟨R, 1, none⟩ (.int .i64 0)).setCell ⟨R, 2, none⟩ (.string (bs key))).setCell ⟨R, 3, none⟩ (.int .i64 gen)).setCell ⟨R, 4, none⟩ (.int .i64 g)).setCell ⟨R, 5, none⟩ (.int .i64 n)).setCell ⟨R, 6, none⟩ (.int .i64 i)).setCell ⟨R, 7, none⟩ (.int .i64 z)).setCell ⟨R, 8, none⟩ (.string (bs (digL z)))).setCell ⟨R, 9, none⟩ (.slice (some ⟨d, 0, none⟩) 16 16)) := (set10_oth hdR.out (.int .i64 2) (.int .i64 0) (.string (bs key)) (.int .i64 gen) (.int .i64 g) (.int .i64 n) (.int .i64 i) (.int .i64 z) (.string (bs (digL z))) (.slice (some ⟨d, 0, none⟩) 16 16)).trans hd7.out
                obtain ⟨wE, hwE⟩ : ∃ x, ((((((((((W7.setCell ⟨R, 0, none⟩ (.int .i64 2)).setCell ⟨R, 1, none⟩ (.int .i64 0)).setCell ⟨R, 2, none⟩ (.string (bs key))).setCell ⟨R, 3, none⟩ (.int .i64 gen)).setCell ⟨R, 4, none⟩ (.int .i64 g)).setCell ⟨R, 5, none⟩ (.int .i64 n)).setCell ⟨R, 6, none⟩ (.int .i64 i)).setCell ⟨R, 7, none⟩ (.int .i64 z)).setCell ⟨R, 8, none⟩ (.string (bs (digL z)))).setCell ⟨R, 9, none⟩ (.slice (some ⟨d, 0, none⟩) 16 16)) = x := ⟨_, rfl⟩
                rw [hwE] at hX hXg hXd ⊢
                replace hwE := Lib.hid hwE
                replace hX := Lib.hid hX
                replace hXd := Lib.hid hXd
                replace hXg := Lib.hid hXg
                try simp only [Act.put, List.setIfInBounds_toArray, List.set_cons_zero, List.set_cons_succ]
                refine wpR_done (by kernel_rfl) ?_ _
                go_wp2_with fail
                go_meet
                exact ⟨R, d, rfl, hX, hXd, hdb.out, hXg⟩
          case rest =>
            obtain ⟨R, d, rfl, hR, hd, hdb, hgx⟩ := hcut
            rename World => wx
            obtain ⟨E9, hE9, hO9⟩ := hcp9.out
            have hlE : E9.length = m9 := by have := congrArg List.length hE9; rw [List.length_map, copyF_len] at this; exact this
            obtain ⟨q, hq⟩ : ∃ q : Fe, q = ⟨⟨(i : Int), frm + (g : Int), ⟨2, 0, key, gen, (g : Int), (n : Int), (i : Int), z, digL z, List.replicate 16 0⟩⟩, some ⟨d, 0, none⟩, 16⟩ := ⟨_, rfl⟩
            have hqf : q.f = shardAt key gen z (digL z) (List.replicate 16 0) frm m9 := by
              rw [hq]
              unfold shardAt
              rw [hm9.out, show (10 * g + i) % 10 = i from by omega, show (10 * g + i) / 10 = g from by omega, hgn.out]
            have hqc : q.cells.toArray = #[.int .i64 i, .int .i64 (frm + g), .int .i64 2, .int .i64 0, .string (bs key), .int .i64 gen, .int .i64 g, .int .i64 n, .int .i64 i, .int .i64 z, .string (bs (digL z)), .slice (some ⟨d, 0, none⟩) 16 16] := by rw [hq]; rfl
            have hqv : FeV q wx := by rw [hq]; exact hd.out.byt
            have hqa : AptF q (.slice A9 m9 c9 : Value).ownBlock := fun _ ad e => by
              rw [hq] at e
              injection e with e
              subst e
              intro e2
              have := (World.ownsRow.lt hO9.row _ e2).2
              simp only at this
              omega
            obtain ⟨W1, hW1⟩ : ∃ W1, wx.alloc (.cells #[.int .i64 i, .int .i64 (frm + g), .int .i64 2, .int .i64 0, .string (bs key), .int .i64 gen, .int .i64 g, .int .i64 n, .int .i64 i, .int .i64 z, .string (bs (digL z)), .slice (some ⟨d, 0, none⟩) 16 16] 39) = W1 := ⟨_, rfl⟩
            have hgW : Gr wx W1 := by rw [← hW1]; exact Gr.alloc _ _
            have hrd : Hid (Reads W1 W1.heap.size 12 (some ⟨wx.heap.size, 0, none⟩) [q].length (flatF [q])) := Lib.hid (by
              have h1 := Reads.foundLit wx q
              rw [hqc, hW1] at h1
              rw [flatF_one1]
              exact h1)
            have hO1 := OF.gr hgW (OF.gr hgx.out (Lib.hid hO9))
            have hqq : Hid (∀ x ∈ [q], FeV x W1 ∧ AptF x (.slice A9 m9 c9 : Value).ownBlock) := Lib.hid (fun x hx => by
              rw [List.mem_singleton] at hx
              subst hx
              exact ⟨hqv.gr hgW, hqa⟩)
            have hbW : Hid (w.heap.size ≤ W1.heap.size) := Lib.hid (Nat.le_trans (Below.size hg9.out) (Nat.le_trans (Below.size hgx.out) (Below.size hgW)))
            have hgw1 := Lib.hid (hg9.out.trans (hgx.out.trans hgW))
            have hE10 : Hid ((E9 ++ [q]).map (·.f) = copyF key gen z frm (m9 + 1)) := Lib.hid (by rw [List.map_append, hE9, copyF_succ, List.map_singleton, hqf])
            have hm40 : m9 ≤ 1000 := by have := hm9.out; omega
            have y0 := blk_cell (j := 0) hR.out rfl
            have y1 := blk_cell (j := 1) hR.out rfl
            have y2 := blk_cell (j := 2) hR.out rfl
            have y3 := blk_cell (j := 3) hR.out rfl
            have y4 := blk_cell (j := 4) hR.out rfl
            have y5 := blk_cell (j := 5) hR.out rfl
            have y6 := blk_cell (j := 6) hR.out rfl
            have y7 := blk_cell (j := 7) hR.out rfl
            have y8 := blk_cell (j := 8) hR.out rfl
            have y9 := blk_cell (j := 9) hR.out rfl
            replace hlE := Lib.hid hlE
            replace hE9 := Lib.hid hE9
            replace hO9 := Lib.hid hO9
            replace hq := Lib.hid hq
            replace hqf := Lib.hid hqf
            replace hqc := Lib.hid hqc
            replace hqv := Lib.hid hqv
            replace hqa := Lib.hid hqa
            replace hgW := Lib.hid hgW
            clear hcp9
            go_wp2_with (at_builtin; go_must (refine wpl_appF rfl (.tmp 36) (.tmp 44) rfl w.heap.size (.slice A9 m9 c9) E9 [q] rfl hO1.out (some ⟨wx.heap.size, 0, none⟩) 1 1 rfl rfl hrd.out hqq.out (by rw [hlE.out]; omega) (by omega) hbW.out ?_); intro v3 W3 hO3 hg3 hb3; obtain ⟨A3, c3, rfl, -, -⟩ := hO3.form; have hl3 : (E9 ++ [q]).length = m9 + 1 := (by rw [List.length_append, hlE.out]; rfl); rw [hl3] at hO3 ⊢; replace hl3 := Lib.hid hl3; replace hO3 := Lib.hid hO3; have hgw3 := Lib.hid (Below.trans hgw1.out hb3); replace hb3 := Lib.hid hb3; replace hg3 := Lib.hid hg3)
            go_roundw
            case rel => exact ⟨i + 1, m9 + 1, A3, c3, by omega, by go_num, rfl, Lib.hid (by have := hm9.out; omega), Lib.hid ⟨_, hE10.out, hO3.out⟩, hgw3⟩
            case measure => simp [intOf]; omega
        · obtain rfl : i = 10 := by omega
          go_wp2_with fail
          go_roundw
          case rel => exact ⟨g + 1, m9, A9, c9, by omega, by go_num, rfl, Lib.hid (by have := hm9.out; omega), hcp9, hg9⟩
          case measure => simp [intOf]; omega
    · obtain rfl : g = n := by omega
      go_wp2_with fail
      go_ret
      exact ⟨A, m, c, rfl, by rw [hns.out]; exact hm.out, hcp, hg.out⟩
end Go.Proofs.Ytiliggleplpjbaa
/- scan, plain: copies of which some shards are kept. -/
namespace Go.Proofs.Ytiliggleplpjbaa
set_option linter.unusedVariables false
set_option linter.unusedSimpArgs false
set_option linter.unusedSectionVars false
open Go Go.RowKit Go.Maps
/-- a copy's numbers are as a copy's are -/
structure Kp (key : By) (gen z : Int) (sum data : By) (frm : Int) : Prop where
  k0 : 1 ≤ key.length
  k1 : key.length ≤ 16
  g0 : 0 ≤ gen
  g1 : gen ≤ 1099511627776
  z0 : 0 ≤ z
  z1 : z ≤ 512
  s : sum.length = 32
  d : data.length = 16
  f0 : 0 ≤ frm
  f1 : frm ≤ 1000
theorem groups_bd {z : Int} (z0 : 0 ≤ z) (z1 : z ≤ 512) : 1 ≤ groupsOf z ∧ groupsOf z ≤ 4 := by
  unfold groupsOf
  rw [if_pos (by unfold inB; simp only [Bool.and_eq_true, decide_eq_true_eq]; omega)]
  constructor <;> omega
section
variable {key sum data : By} {gen z frm : Int} (K : Kp key gen z sum data frm)
include K
theorem Kp.slots : ∃ G : Nat, 1 ≤ G ∧ G ≤ 4 ∧ groupsOf z = (G : Int) ∧ nSlots ⟨key, gen, z, sum⟩ = 10 * G := by
  obtain ⟨h1, h2⟩ := groups_bd K.z0 K.z1
  refine ⟨(groupsOf z).toNat, by omega, by omega, by omega, rfl⟩
theorem Kp.cnt {s : Nat} (hs : s < nSlots ⟨key, gen, z, sum⟩) : cnt (shardAt key gen z sum data frm s) = true := by
  obtain ⟨G, h1, h2, h3, h4⟩ := K.slots
  have := K.f0
  have := K.f1
  rw [cnt_iff]
  refine ⟨?_, ?_, ?_⟩
  · unfold shardAt; simp only; omega
  · unfold shardAt; simp only; omega
  · unfold shardAt goodB nameB shardB
    simp only
    rw [if_neg (by decide), if_neg (by decide), if_pos trivial]
    have a1 : inB (key.length : Int) 1 16 = true := (inB_iff _ _ _).mpr ⟨by have := K.k0; omega, by have := K.k1; omega⟩
    have a2 : inB gen 0 1099511627776 = true := (inB_iff _ _ _).mpr ⟨K.g0, K.g1⟩
    have a3 : inB z 0 512 = true := (inB_iff _ _ _).mpr ⟨K.z0, K.z1⟩
    have a4 : inB ((s / 10 : Nat) : Int) 0 (groupsOf z - 1) = true := (inB_iff _ _ _).mpr ⟨by omega, by omega⟩
    have a5 : inB ((s % 10 : Nat) : Int) 0 9 = true := (inB_iff _ _ _).mpr ⟨by omega, by omega⟩
    rw [a1, a2, a3, a4, a5, K.s, K.d]
    simp
theorem Kp.cnts {keep : Nat → Bool} : ∀ f ∈ keptL key gen z sum data frm keep (nSlots ⟨key, gen, z, sum⟩), Go.Proofs.Ytiliggleplpjbaa.cnt f = true := fun f hf => by
  obtain ⟨s, hs, -, rfl⟩ := kept_mem hf
  exact K.cnt hs
omit K in
theorem kept_vr {keep : Nat → Bool} {n : Nat} {f : Fd} (hf : f ∈ keptL key gen z sum data frm keep n) : f.r.kind = 2 ∧ f.r.vr = ⟨key, gen, z, sum⟩ ∧ f.r.gen = gen ∧ f.r.key = key := by
  obtain ⟨s, hs, -, rfl⟩ := kept_mem hf
  exact ⟨rfl, rfl, rfl, rfl⟩
omit K in
theorem kept_vers {keep : Nat → Bool} {n : Nat} {u : Vr} (h : u ∈ vers (keptL key gen z sum data frm keep n)) : u = ⟨key, gen, z, sum⟩ := by
  obtain ⟨f, hf, -, rfl⟩ := mem_vers.mp h
  exact (kept_vr hf).2.1
omit K in
theorem kept_in {keep : Nat → Bool} {n s : Nat} (hs : s < n) (hk : keep s = true) : (⟨key, gen, z, sum⟩ : Vr) ∈ vers (keptL key gen z sum data frm keep n) := by
  refine mem_vers.mpr ⟨shardAt key gen z sum data frm s, ?_, rfl, rfl⟩
  unfold keptL
  exact List.mem_map.mpr ⟨s, List.mem_filter.mpr ⟨List.mem_range.mpr hs, hk⟩, rfl⟩
omit K in
theorem kept_dead (keep : Nat → Bool) (n : Nat) (u : Vr) : deadB (keptL key gen z sum data frm keep n) u = false := by
  unfold deadB
  rw [List.any_eq_false]
  intro f hf
  rw [(kept_vr hf).1]
  simp
/-- how many of group g are kept -/
def keptN (keep : Nat → Bool) (g : Nat) : Nat := ((List.range 10).filter (fun j => keep (10 * g + j))).length
theorem Kp.places (keep : Nat → Bool) : placesOf (keptL key gen z sum data frm keep (nSlots ⟨key, gen, z, sum⟩)) ⟨key, gen, z, sum⟩ = (List.range (nSlots ⟨key, gen, z, sum⟩)).map (fun i => if keep i = true then (((i % 10 : Nat) : Int), frm + ((i / 10 : Nat) : Int)) else nowP) := by
  unfold placesOf
  refine List.map_congr_left fun i hi => ?_
  rw [placeOf_kept]
  have hi := List.mem_range.mp hi
  by_cases hk : keep i = true
  · rw [if_pos ⟨hi, hk⟩, if_pos hk]
  · rw [if_neg (fun h => hk h.2), if_neg hk]
theorem Kp.at_ne (i : Nat) (hi : i < nSlots ⟨key, gen, z, sum⟩) : ((((i % 10 : Nat) : Int), frm + ((i / 10 : Nat) : Int)) : Int × Int) ≠ nowP := by
  obtain ⟨G, h1, h2, h3, h4⟩ := K.slots
  have := K.f1
  unfold nowP
  intro e
  injection e with e1 e2
  omega
theorem Kp.present (keep : Nat → Bool) {g : Nat} (hg : 10 * g + 10 ≤ nSlots ⟨key, gen, z, sum⟩) : present (chunkOf (placesOf (keptL key gen z sum data frm keep (nSlots ⟨key, gen, z, sum⟩)) ⟨key, gen, z, sum⟩) g) = keptN keep g := by
  rw [K.places, chunk_at _ _ _ hg]
  unfold keptN
  refine present_map _ _ _ fun j hj => ?_
  have hj := List.mem_range.mp hj
  by_cases hk : keep (10 * g + j) = true
  · rw [if_pos hk, hk]
    exact decide_eq_true (K.at_ne _ (by omega))
  · rw [if_neg hk, Bool.eq_false_iff.mpr hk]
    simp
theorem Kp.fewest (keep : Nat → Bool) (k : Nat) : k ≤ fewestL (placesOf (keptL key gen z sum data frm keep (nSlots ⟨key, gen, z, sum⟩)) ⟨key, gen, z, sum⟩) ↔ k ≤ 10 ∧ ∀ g, 10 * g + 10 ≤ nSlots ⟨key, gen, z, sum⟩ → k ≤ keptN keep g := by
  rw [fewestL_ge, placesOf_len]
  obtain ⟨G, h1, h2, h3, h4⟩ := K.slots
  constructor
  · rintro ⟨a, b⟩
    exact ⟨a, fun g hg => by rw [← K.present keep hg]; exact b g (by omega)⟩
  · rintro ⟨a, b⟩
    exact ⟨a, fun g hg => by rw [K.present keep (by omega)]; exact b g (by omega)⟩
theorem Kp.usable (keep : Nat → Bool) : usable (keptL key gen z sum data frm keep (nSlots ⟨key, gen, z, sum⟩)) ⟨key, gen, z, sum⟩ = true ↔ ∀ g, 10 * g + 10 ≤ nSlots ⟨key, gen, z, sum⟩ → 8 ≤ keptN keep g := by
  unfold Go.Proofs.Ytiliggleplpjbaa.usable
  rw [kept_dead, Bool.not_false, Bool.and_true, decide_eq_true_iff, K.fewest]
  exact ⟨fun h => h.2, fun h => ⟨by omega, h⟩⟩
omit K in
theorem keptN_pos {keep : Nat → Bool} {g : Nat} (h : 0 < keptN keep g) : ∃ s, s < 10 * g + 10 ∧ keep s = true := by
  unfold keptN at h
  obtain ⟨j, hj⟩ := List.exists_mem_of_length_pos h
  obtain ⟨h1, h2⟩ := List.mem_filter.mp hj
  exact ⟨10 * g + j, by have := List.mem_range.mp h1; omega, h2⟩
/-- enough of each group: the copy -/
theorem Kp.out_some (keep : Nat → Bool) {out : List EnP} (h : IsOut (keptL key gen z sum data frm keep (nSlots ⟨key, gen, z, sum⟩)) out) (hk : ∀ g, 10 * g + 10 ≤ nSlots ⟨key, gen, z, sum⟩ → 8 ≤ keptN keep g) : out = [entV (keptL key gen z sum data frm keep (nSlots ⟨key, gen, z, sum⟩)) ⟨key, gen, z, sum⟩] := by
  obtain ⟨G, h1, h2, h3, h4⟩ := K.slots
  obtain ⟨s, hs, hks⟩ := keptN_pos (keep := keep) (g := 0) (by have := hk 0 (by omega); omega)
  exact h.one (kept_in (by omega) hks) ((K.usable keep).mpr hk) (fun u hu _ => .inl (kept_vers hu))
/-- too few of a group: none -/
theorem Kp.out_none (keep : Nat → Bool) {out : List EnP} (h : IsOut (keptL key gen z sum data frm keep (nSlots ⟨key, gen, z, sum⟩)) out) {g : Nat} (hg : 10 * g + 10 ≤ nSlots ⟨key, gen, z, sum⟩) (hk : keptN keep g < 8) : out = [] :=
  h.none_ (fun u hu => by
    rw [kept_vers hu, ← Bool.not_eq_true, K.usable]
    intro h2
    have := h2 g hg
    omega)
/-- with a tomb behind -/
theorem Kp.out_young (keep : Nat → Bool) {out : List EnP} {t : Fd} (ht : t.r.kind = 3) (hg : t.r.gen < gen) (h : IsOut (keptL key gen z sum data frm keep (nSlots ⟨key, gen, z, sum⟩) ++ [t]) out) (hk : ∀ g, 10 * g + 10 ≤ nSlots ⟨key, gen, z, sum⟩ → 8 ≤ keptN keep g) : out.length = 1 := by
  obtain ⟨G, h1, h2, h3, h4⟩ := K.slots
  obtain ⟨s, hs, hks⟩ := keptN_pos (keep := keep) (g := 0) (by have := hk 0 (by omega); omega)
  have hv := vers_mid (keptL key gen z sum data frm keep (nSlots ⟨key, gen, z, sum⟩)) [] t ht
  rw [List.append_nil] at hv
  have hp := placesOf_mid (keptL key gen z sum data frm keep (nSlots ⟨key, gen, z, sum⟩)) [] t ht ⟨key, gen, z, sum⟩
  rw [List.append_nil] at hp
  have hd := deadB_mid (keptL key gen z sum data frm keep (nSlots ⟨key, gen, z, sum⟩)) [] t ⟨key, gen, z, sum⟩
  rw [List.append_nil, kept_dead, Bool.false_or] at hd
  have hu := (K.usable keep).mpr hk
  unfold Go.Proofs.Ytiliggleplpjbaa.usable at hu
  rw [Bool.and_eq_true] at hu
  have := h.one (v := ⟨key, gen, z, sum⟩) (by rw [hv]; exact kept_in (by omega) hks) (by
    unfold Go.Proofs.Ytiliggleplpjbaa.usable
    rw [hp, hd, hu.1, decide_eq_false (show ¬ gen ≤ t.r.gen by omega)]
    simp) (fun u hu2 _ => .inl (kept_vers (by rw [hv] at hu2; exact hu2)))
  rw [this]; rfl
theorem Kp.out_old (keep : Nat → Bool) {out : List EnP} {t : Fd} (ht : t.r.kind = 3) (hg : gen ≤ t.r.gen) (hk : t.r.key = key) (h : IsOut (keptL key gen z sum data frm keep (nSlots ⟨key, gen, z, sum⟩) ++ [t]) out) : out = [] :=
  h.none_ (fun u hu => by
    have hv := vers_mid (keptL key gen z sum data frm keep (nSlots ⟨key, gen, z, sum⟩)) [] t ht
    rw [List.append_nil] at hv
    rw [hv] at hu
    have hd := deadB_mid (keptL key gen z sum data frm keep (nSlots ⟨key, gen, z, sum⟩)) [] t ⟨key, gen, z, sum⟩
    rw [List.append_nil, kept_dead, Bool.false_or] at hd
    rw [kept_vers hu]
    unfold Go.Proofs.Ytiliggleplpjbaa.usable
    rw [hd, decide_eq_true ht, decide_eq_true hk, decide_eq_true hg]
    simp)
theorem Kp.most (keep : Nat → Bool) {s n : Nat} (hs : s < n) (hk : keep s = true) : mostG (keptL key gen z sum data frm keep n) = gen := by
  have h1 : gen ≤ mostG (keptL key gen z sum data frm keep n) := mostG_ge (f := shardAt key gen z sum data frm s) (by unfold keptL; exact List.mem_map.mpr ⟨s, List.mem_filter.mpr ⟨List.mem_range.mpr hs, hk⟩, rfl⟩)
  have h2 : mostG (keptL key gen z sum data frm keep n) ≤ gen := foldG_le _ 0 _ K.g0 (fun f hf => by rw [(kept_vr hf).2.2.1]; exact Int.le_refl _)
  omega
end
end Go.Proofs.Ytiliggleplpjbaa
/- scan: what Best answers, as it is read; awake. -/
namespace Go.Proofs.Ytiliggleplpjbaa
set_option linter.unusedVariables false
set_option linter.unusedSimpArgs false
open Go Go.RowKit Go.Maps Go.Proofs
/-- an entry as it lies in a row -/
structure Ez where
  e : EnP
  A : Option Addr
  c : Nat
def Ez.cells (x : Ez) : List Value := [.string (bs x.e.key), .int .i64 x.e.gen, .int .i64 x.e.size, .string (bs x.e.sum), .slice x.A x.e.places.length x.c]
def Eb.ez (x : Eb) : Ez := ⟨x.e, some ⟨x.g, 0, none⟩, x.e.places.length⟩
/-- a slice of entries that reads as Z -/
def EsV (Z : List Ez) (v : Value) (w : World) : Prop := ∃ (A : Option Addr) (c : Nat), v = .slice A Z.length c ∧ Z.length ≤ c ∧ c ≤ maxLen ∧
  (0 < Z.length → ∃ b o, A = some ⟨b, o, none⟩ ∧ b < w.heap.size ∧ ∀ i x, Z[i]? = some x → ∀ j u, x.cells[j]? = some u → w.cell? ⟨b, o + i * 5 + j, none⟩ = some u) ∧ ∀ x ∈ Z, Pls x.e.places (.slice x.A x.e.places.length x.c) w
theorem EsV.gr {Z : List Ez} {v : Value} {w w' : World} (hr : Gr w w') (h : Hid (EsV Z v w)) : Hid (EsV Z v w') := Lib.hid (by
  obtain ⟨A, c, e2, h1, h2, h3, h4⟩ := h.out
  refine ⟨A, c, e2, h1, h2, fun hp => ?_, fun x hx => (Pls.gr hr (Lib.hid (h4 x hx))).out⟩
  obtain ⟨b, o, e, hb, hc⟩ := h3 hp
  exact ⟨b, o, e, Nat.lt_of_lt_of_le hb (Below.size hr), fun i x hx j u hu => (cellGr hr (a := ⟨b, o + i * 5 + j, none⟩) hb).trans (hc i x hx j u hu)⟩)
/-- its entry at i, in any later world -/
theorem EsV.get {Z : List Ez} {A : Option Addr} {m c : Nat} {w : World} (h : EsV Z (.slice A m c) w) {i : Nat} {x : Ez} (hx : Z[i]? = some x) : ∃ b o, A = some ⟨b, o, none⟩ ∧ b < w.heap.size ∧ Pls x.e.places (.slice x.A x.e.places.length x.c) w ∧ ∀ q, Gr w q →
    q.cell? ⟨b, o + i * 5, none⟩ = some (.string (bs x.e.key)) ∧ q.cell? ⟨b, o + i * 5 + 1, none⟩ = some (.int .i64 x.e.gen) ∧ q.cell? ⟨b, o + i * 5 + 2, none⟩ = some (.int .i64 x.e.size) ∧ q.cell? ⟨b, o + i * 5 + 3, none⟩ = some (.string (bs x.e.sum)) ∧ q.cell? ⟨b, o + i * 5 + 4, none⟩ = some (.slice x.A x.e.places.length x.c) := by
  obtain ⟨A', c', e, h1, h2, h3, h4⟩ := h
  injection e with e1 _ _
  subst e1
  have hi := (List.getElem?_eq_some_iff.mp hx).1
  obtain ⟨b, o, e, hb, hc⟩ := h3 (by omega)
  refine ⟨b, o, e, hb, h4 x (List.mem_of_getElem? hx), fun q hq => ⟨?_, ?_, ?_, ?_, ?_⟩⟩
  · exact (cellGr hq (a := ⟨b, o + i * 5, none⟩) hb).trans (hc i x hx 0 _ rfl)
  · exact (cellGr hq (a := ⟨b, o + i * 5 + 1, none⟩) hb).trans (hc i x hx 1 _ rfl)
  · exact (cellGr hq (a := ⟨b, o + i * 5 + 2, none⟩) hb).trans (hc i x hx 2 _ rfl)
  · exact (cellGr hq (a := ⟨b, o + i * 5 + 3, none⟩) hb).trans (hc i x hx 3 _ rfl)
  · exact (cellGr hq (a := ⟨b, o + i * 5 + 4, none⟩) hb).trans (hc i x hx 4 _ rfl)
theorem EsV.len {Z : List Ez} {A : Option Addr} {m c : Nat} {w : World} (h : EsV Z (.slice A m c) w) : Z.length = m ∧ m ≤ c ∧ c ≤ maxLen := by
  obtain ⟨A', c', e, h1, h2, -⟩ := h
  injection e with _ e2 e3
  subst e2 e3
  exact ⟨rfl, h1, h2⟩
theorem nSlots_le {C : List Fd} (hC : ∀ f ∈ C, cnt f = true) {v : Vr} (hv : v ∈ vers C) : nSlots v ≤ 40 := by
  have := vers_size hC hv
  unfold nSlots
  omega
theorem BoV.es {C : List Fd} (hC : ∀ f ∈ C, cnt f = true) {L : List Eb} {v : Value} {base : Nat} {w : World} (h : BoV L v base w) (ho : IsOut C (L.map (fun x => x.e))) : EsV (L.map Eb.ez) v w := by
  obtain ⟨A, c, rfl, h1, h2⟩ := row_form h.1
  refine ⟨A, c, by rw [List.length_map], by rw [List.length_map]; exact h1, h2, fun hp => ?_, fun x hx => ?_⟩
  · rw [List.length_map] at hp
    have hr := Reads.of_own h.1
    obtain ⟨g, cap, hv, _, hlt⟩ := World.ownsRow.form h.1 hp
    have hA : A = some ⟨g, 0, none⟩ := by injection hv
    subst hA
    obtain ⟨ad, e, hb, hc⟩ := hr.2 hp
    injection e with e
    subst e
    refine ⟨g, 0, rfl, hb, fun i x hx j u hu => ?_⟩
    rw [List.getElem?_map, Option.map_eq_some_iff] at hx
    obtain ⟨y, hy, rfl⟩ := hx
    have hj : j < 5 := (List.getElem?_eq_some_iff.mp hu).1
    have a := hc _ u ((flatEb_at hy j hj).trans hu)
    rw [addr0] at a
    rw [show 0 + i * 5 + j = i * 5 + j from by omega]
    exact a
  · obtain ⟨y, hy, rfl⟩ := List.mem_map.mp hx
    obtain ⟨u, hu, -, hue, -⟩ := ho.2.is y.e (List.mem_map.mpr ⟨y, hy, rfl⟩)
    refine Pls.of_blk (h.2 y hy) ?_ ?_
    · have : y.ez.e = entV C u := hue
      rw [this]
      exact placesOf_I64 hC u
    · have : y.ez.e = entV C u := hue
      rw [this]
      show (placesOf C u).length ≤ _
      rw [placesOf_len]
      have := nSlots_le hC hu
      simp only [maxLen]
      omega
/-- Best, as it is read -/
theorem bestV_any (E : List Fe) (v : Value) (w : World) (hE : FsV E v w) (hok : Hid (∀ x ∈ E, x.f.r.Ok)) (hlen : E.length ≤ 900) : Calls Try.prog 10 #[v] w fun e w' => ∃ (A : Option Addr) (c : Nat) (Z : List Ez), e = .returned (.tuple #[.slice A Z.length c, .int .i64 (mostG (cF E))]) ∧ Hid (IsOut (cF E) (Z.map (fun x => x.e))) ∧ Hid (EsV Z (.slice A Z.length c) w') ∧ Gr w w' := by
  refine (best_any E v w hE hok hlen).mono ?_
  rintro e w' ⟨A, c, L, rfl, h1, h2, h3⟩
  refine ⟨A, c, L.map Eb.ez, by rw [List.length_map], Lib.hid ?_, Lib.hid ?_, h3⟩
  · rw [List.map_map]; exact h1
  · rw [List.length_map]; exact BoV.es cF_cnt h2 h1
theorem cF_eq (E : List Fe) : cF E = (E.map (fun x => x.f)).filter cnt := by
  unfold cF ctE
  rw [List.filter_map]
  rfl
theorem cF_all {E : List Fe} {C : List Fd} (h : E.map (fun x => x.f) = C) (hc : ∀ f ∈ C, cnt f = true) : cF E = C := by
  rw [cF_eq, h, List.filter_eq_self.mpr hc]
theorem copyF_kept (key : By) (gen z frm : Int) (n : Nat) : copyF key gen z frm n = keptL key gen z (digL z) (List.replicate 16 0) frm (fun _ => true) n := by
  unfold copyF keptL
  rw [List.filter_eq_self.mpr (fun _ _ => rfl)]
theorem shard_ok {key : By} {gen z frm : Int} (K : Kp key gen z (digL z) (List.replicate 16 0) frm) {s : Nat} (hs : s < nSlots ⟨key, gen, z, digL z⟩) : (shardAt key gen z (digL z) (List.replicate 16 0) frm s).r.Ok := by
  obtain ⟨G, h1, h2, h3, h4⟩ := K.slots
  have := K.g0
  have := K.g1
  have := K.z0
  have := K.z1
  have := K.k1
  constructor <;> first | (show R64 _; unfold R64; simp only [shardAt]; omega) | (show (_ : List UInt8).length ≤ maxLen; simp only [maxLen, shardAt, digL_len, List.length_replicate]; omega)
theorem kept_ok {key : By} {gen z frm : Int} (K : Kp key gen z (digL z) (List.replicate 16 0) frm) {keep : Nat → Bool} {f : Fd} (hf : f ∈ keptL key gen z (digL z) (List.replicate 16 0) frm keep (nSlots ⟨key, gen, z, digL z⟩)) : f.r.Ok := by
  obtain ⟨s, hs, -, rfl⟩ := kept_mem hf
  exact shard_ok K hs
theorem oks {E : List Fe} {C : List Fd} (h : E.map (fun x => x.f) = C) (hc : ∀ f ∈ C, f.r.Ok) : Hid (∀ x ∈ E, x.f.r.Ok) := Lib.hid (fun x hx => hc x.f (by rw [← h]; exact List.mem_map.mpr ⟨x, hx, rfl⟩))
theorem tomb_ok {key : By} (hk : key.length ≤ maxLen) {g : Int} (h0 : 0 ≤ g) (h1 : g ≤ 1099511627776) : (tombF key g).r.Ok := by
  constructor <;> first | (show R64 _; unfold R64; simp only [tombF]; omega) | (show (_ : List UInt8).length ≤ maxLen; first | exact hk | simp [tombF])
theorem tomb_cnt {key : By} (k0 : 1 ≤ key.length) (k1 : key.length ≤ 16) {g : Int} (h0 : 0 ≤ g) (h1 : g ≤ 1099511627776) : cnt (tombF key g) = true := by
  rw [cnt_iff]
  refine ⟨by unfold tombF; simp only; omega, by unfold tombF; simp only; omega, ?_⟩
  unfold goodB nameB tombF bare3 sameR
  simp only
  have a1 : inB (key.length : Int) 1 16 = true := (inB_iff _ _ _).mpr ⟨by omega, by omega⟩
  have a2 : inB g 0 1099511627776 = true := (inB_iff _ _ _).mpr ⟨h0, h1⟩
  rw [if_neg (by decide), a1, a2]
  simp
end Go.Proofs.Ytiliggleplpjbaa
/- scan: awake. -/
namespace Go.Proofs.Ytiliggleplpjbaa
set_option linter.unusedVariables false
set_option linter.unusedSimpArgs false
open Go Go.RowKit Go.Maps Go.Proofs
/-- an empty row, just made -/
theorem OF.lit0 {w w1 : World} (h : w.alloc (.cells #[] 39) = w1) {base : Nat} (hb : base ≤ w.heap.size) : OF [] (.slice (some ⟨w.heap.size, 0, none⟩) 0 0) base w1 := ⟨⟨rfl, .inr ⟨w.heap.size, 0, #[], rfl, hb, by rw [← h]; exact heap_alloc_new w _, Nat.le_refl _, Nat.zero_le _, rfl, rfl⟩⟩, fun x h => (by cases h), fun x h => (by cases h)⟩
/-- what may be appended to a row that was made behind it -/
theorem OF.apt {E E2 : List Fe} {v v2 : Value} {base : Nat} {w w1 : World} (h2 : FsV E2 v2 w) (hg : Gr w w1) (h : OF E v base w1) (hb : w.heap.size ≤ base) : ∀ q ∈ E2, FeV q w1 ∧ AptF q v.ownBlock := fun q hq => by
  have hv := h2.vs q hq
  refine ⟨hv.gr hg, ?_⟩
  cases hu : v.ownBlock with
  | none => exact AptF.none_ q
  | some k => exact hv.fresh (Nat.le_trans hb (World.ownsRow.lt h.row k hu).1)
theorem reads_lit (w : World) (q : Fe) {w1 : World} {cs : Array Value} (hq : q.cells.toArray = cs) (h : w.alloc (.cells cs 39) = w1) : Reads w1 w1.heap.size 12 (some ⟨w.heap.size, 0, none⟩) [q].length (flatF [q]) := by
  have h1 := Reads.foundLit w q
  rw [hq, h] at h1
  rw [flatF_one1]
  exact h1
def aKey : By := [97]
theorem aKp : Kp aKey 3 0 (digL 0) (List.replicate 16 0) 0 := ⟨by decide, by decide, by decide, by decide, by decide, by decide, by decide, by decide, by decide, by decide⟩
theorem aSl : nSlots ⟨aKey, 3, 0, digL 0⟩ = 10 := by decide
theorem aN (g : Nat) : 8 ≤ keptN (fun _ => true) g := by unfold keptN; exact (by decide : 8 ≤ ((List.range 10).filter (fun _ => true)).length)
/-- all shards of the copy, as a list -/
def aC : List Fd := keptL aKey 3 0 (digL 0) (List.replicate 16 0) 0 (fun _ => true) (nSlots ⟨aKey, 3, 0, digL 0⟩)
theorem aTomb {E : List Fe} (hE : E.map (fun x => x.f) = aC) (hl : E.length = 10) {g : Int} (h0 : 0 ≤ g) (h1 : g ≤ 3) : ([] ++ E ++ [tombE aKey g]).length = 11 ∧ cF ([] ++ E ++ [tombE aKey g]) = aC ++ [tombF aKey g] ∧ Hid (∀ x ∈ [] ++ E ++ [tombE aKey g], x.f.r.Ok) ∧ mostG (aC ++ [tombF aKey g]) = 3 := by
  have hEm : ([] ++ E ++ [tombE aKey g] : List Fe).map (fun x => x.f) = aC ++ [tombF aKey g] := by rw [List.map_append, List.nil_append, hE]; rfl
  have htc : cnt (tombF aKey g) = true := tomb_cnt (by decide) (by decide) h0 (by omega)
  refine ⟨by simp [hl], cF_all hEm (fun f hf => ?_), oks hEm (fun f hf => ?_), ?_⟩
  · rcases List.mem_append.mp hf with h | h
    · exact aKp.cnts f h
    · rw [List.mem_singleton] at h; subst h; exact htc
  · rcases List.mem_append.mp hf with h | h
    · exact kept_ok aKp h
    · rw [List.mem_singleton] at h; subst h; exact tomb_ok (by decide) h0 (by omega)
  · rw [mostG_snoc]
    have : mostG aC = 3 := aKp.most (fun _ => true) (s := 0) (n := nSlots ⟨aKey, 3, 0, digL 0⟩) (by rw [aSl]; decide) rfl
    rw [this]
    show max (3 : Int) g = 3
    omega
set_option maxRecDepth 100000 in
set_option maxHeartbeats 8000000 in
theorem awake_any (w : World) : Calls Try.prog 12 #[] w fun e w' => e = .returned (.bool true) ∧ Gr w w' := by
  have hco := Lib.hid (copyOf_any [97] 3 0 0 (by decide) (by decide) (by decide) (by decide) w)
  go_enter Try.func12, Try.ntmps12
  go_upto_region 2 with (go_at_call 17; go_must (refine hco.out.mono ?_); clear hco; rintro e w1 ⟨A1, m1, c1, rfl, hm1, hcp1, hg1⟩; replace hm1 := Lib.hid hm1; replace hg1 := Lib.hid hg1)
  obtain rfl : m1 = 10 := by rw [hm1.out]; exact aSl
  obtain ⟨E, hE, hO⟩ := hcp1.out
  have hlE : E.length = 10 := by have := congrArg List.length hE; rw [List.length_map, copyF_len] at this; exact this
  rw [copyF_kept] at hE
  have hE : E.map (fun x => x.f) = keptL aKey 3 0 (digL 0) (List.replicate 16 0) 0 (fun _ => true) (nSlots ⟨aKey, 3, 0, digL 0⟩) := by rw [aSl]; exact hE
  have hcF := cF_all hE aKp.cnts
  have hok := oks hE (fun f hf => kept_ok aKp hf)
  have hfs1 := Lib.hid hO.fs
  have hb1 := Lib.hid (bestV_any E (.slice A1 10 c1) w1 hfs1.out hok (by omega))
  rw [hcF, aKp.most (fun _ => true) (s := 0) (n := nSlots ⟨aKey, 3, 0, digL 0⟩) (by rw [aSl]; decide) rfl] at hb1
  clear hcp1 hm1
  replace hE : Hid (E.map (fun x => x.f) = aC) := Lib.hid hE
  replace hlE := Lib.hid hlE
  replace hO := Lib.hid hO
  replace hcF := Lib.hid hcF
  go_upto_region 3 with (go_at_call 10; go_must (refine hb1.out.mono ?_); clear hb1; rintro e w2 ⟨B2, d2, Z2, rfl, hI2, hZ2, hg2⟩; replace hg2 := Lib.hid hg2)
  -- the first
  have hone := aKp.out_some (fun _ => true) hI2.out (fun g _ => aN g)
  obtain ⟨z, hz⟩ : ∃ z, Z2 = [z] := by
    cases Z2 with
    | nil => cases hone
    | cons z l =>
      cases l with
      | nil => exact ⟨z, rfl⟩
      | cons y l => simp at hone
  subst hz
  rw [List.map_singleton] at hone
  injection hone with hze _
  have hzp : z.e.places.length = 10 := by rw [hze]; show (placesOf _ _).length = 10; rw [placesOf_len]; exact aSl
  have hzk : z.e.key = aKey := by rw [hze]; rfl
  have hzg : z.e.gen = 3 := by rw [hze]; rfl
  obtain ⟨zb, zo, rfl, hzb, -, hzc⟩ := hZ2.out.get (i := 0) rfl
  replace hzc := Lib.hid hzc
  replace hze := Lib.hid hze
  replace hzk := Lib.hid hzk
  replace hzg := Lib.hid hzg
  replace hzp := Lib.hid hzp
  simp only [List.length_singleton]
  -- two
  obtain ⟨v3, hv3⟩ : ∃ x, w2.alloc (.cells #[] 39) = x := ⟨_, rfl⟩
  have hgv3 : Gr w2 v3 := by rw [← hv3]; exact Gr.alloc _ _
  have hO3 := OF.lit0 hv3 (Nat.le_refl w2.heap.size)
  have hga3 : Gr w1 w2 := hg2.out
  have hqq3 := Lib.hid (OF.apt (FsV.gr hga3 hfs1).out hgv3 hO3 (Nat.le_refl _))
  have hrd3 := Lib.hid (FsV.gr (hga3.trans hgv3) hfs1).out.reads
  replace hO3 := Lib.hid hO3
  have hbs3 : Hid (w2.heap.size ≤ v3.heap.size) := Lib.hid (Below.size hgv3)
  replace hgv3 := Lib.hid hgv3
  replace hga3 := Lib.hid hga3
  obtain ⟨hlm, hcm, hokm, hmm⟩ := aTomb hE.out hlE.out (g := 2) (by decide) (by decide)
  replace hlm := Lib.hid hlm
  replace hcm := Lib.hid hcm
  replace hmm := Lib.hid hmm
  go_upto_region 4 with (first
    | (at_builtin; (refine wpl_appF rfl (.tmp 17) (.tmp 18) rfl w2.heap.size (.slice (some ⟨w2.heap.size, 0, none⟩) 0 0) [] E rfl hO3.out A1 10 c1 hlE.out rfl hrd3.out hqq3.out (by decide) (by decide) hbs3.out ?_); intro vv ww hOO hgg hbb
       obtain ⟨Aa, ca, rfl, -, -⟩ := hOO.form
       have hOb := Lib.hid hOO
       have hla : ([] ++ E).length = 10 := hlE.out
       have hgu3 : Hid (Gr w2 ww) := Lib.hid (Below.trans hgv3.out hbb)
       replace hgg := Lib.hid hgg
       clear hO3 hrd3 hqq3 hOO
       rw [hla] at hOb ⊢
       replace hla := Lib.hid hla
       have htb : Hid (Calls Try.prog 16 #[.string ⟨#[97]⟩, .int .i64 2] ww fun e w' => e = .returned (tombE aKey 2).agg ∧ Gr ww w') := Lib.hid (tomb_any aKey 2 ww)
       replace hbb := Lib.hid hbb)
    | (go_at_call 16; go_must (refine htb.out.mono ?_); clear htb; rintro e w9 ⟨rfl, hg9⟩
       obtain ⟨wl, hwl⟩ : ∃ x, w9.alloc (.cells #[.int .i64 31, .int .i64 1, .int .i64 3, .int .i64 0, .string (bs aKey), .int .i64 2, .int .i64 0, .int .i64 0, .int .i64 0, .int .i64 0, .string (bs []), .slice none 0 0] 39) = x := ⟨_, rfl⟩
       have hgl : Gr w9 wl := by rw [← hwl]; exact Gr.alloc _ _
       have hrl := Lib.hid (reads_lit w9 (tombE aKey 2) rfl hwl)
       have hOl := OF.gr hgl (OF.gr hg9 hOb)
       have hql : Hid (∀ q ∈ [tombE aKey 2], FeV q wl ∧ AptF q (.slice Aa 10 ca : Value).ownBlock) := Lib.hid (fun q hq => by
         rw [List.mem_singleton] at hq
         subst hq
         exact ⟨tombE_v _ _ _, fun h => absurd h (by decide)⟩)
       have hgl2 : Hid (Gr w2 wl) := Lib.hid (hgu3.out.trans (hg9.trans hgl))
       have hbl2 : Hid (w2.heap.size ≤ wl.heap.size) := Lib.hid (Below.size hgl2.out)
       replace hg9 := Lib.hid hg9
       replace hgl := Lib.hid hgl
       clear hOb
       unfold tombE tombF Fe.agg
       simp only [List.length_nil])
    | (at_builtin; (refine wpl_appF rfl (.tmp 19) (.tmp 21) rfl w2.heap.size (.slice Aa 10 ca) ([] ++ E) [tombE aKey 2] rfl hOl.out (some ⟨w9.heap.size, 0, none⟩) 1 1 rfl rfl hrl.out hql.out (by have := hlE.out; simp; omega) (by decide) hbl2.out ?_); intro vv wm hOO hgg2 hbb2
       replace hwl := Lib.hid hwl
       obtain ⟨Am, cm, rfl, -, -⟩ := hOO.form
       have hbm := Lib.hid (bestV_any ([] ++ E ++ [tombE aKey 2]) _ wm hOO.fs hokm (by rw [hlm.out]; decide))
       rw [hcm.out, hmm.out] at hbm
       rw [hlm.out] at hbm ⊢
       have hgm : Hid (Gr w2 wm) := Lib.hid (Below.trans hgl2.out hbb2)
       replace hgg2 := Lib.hid hgg2
       replace hbb2 := Lib.hid hbb2
       clear hOl hrl hql hOO hokm)
    | (go_at_call 10; go_must (refine hbm.out.mono ?_); clear hbm; rintro e w4 ⟨B4, d4, Z4, rfl, hI4, hZ4, hg4⟩
       have hg34 := Lib.hid (hgm.out.trans hg4)
       replace hg4 := Lib.hid hg4))
  replace hv3 := Lib.hid hv3
  clear hlm hcm hmm
  have hn4 := aKp.out_young (fun _ => true) (t := tombF aKey 2) rfl (by decide) hI4.out (fun g _ => aN g)
  rw [List.length_map] at hn4
  rw [hn4]
  replace hn4 := Lib.hid hn4
  -- none
  obtain ⟨v5, hv5⟩ : ∃ x, w4.alloc (.cells #[] 39) = x := ⟨_, rfl⟩
  have hgv5 : Gr w4 v5 := by rw [← hv5]; exact Gr.alloc _ _
  have hO5 := OF.lit0 hv5 (Nat.le_refl w4.heap.size)
  have hga5 : Gr w1 w4 := hg2.out.trans hg34.out
  have hqq5 := Lib.hid (OF.apt (FsV.gr hga5 hfs1).out hgv5 hO5 (Nat.le_refl _))
  have hrd5 := Lib.hid (FsV.gr (hga5.trans hgv5) hfs1).out.reads
  replace hO5 := Lib.hid hO5
  have hbs5 : Hid (w4.heap.size ≤ v5.heap.size) := Lib.hid (Below.size hgv5)
  replace hgv5 := Lib.hid hgv5
  replace hga5 := Lib.hid hga5
  obtain ⟨hlm, hcm, hokm, hmm⟩ := aTomb hE.out hlE.out (g := 3) (by decide) (by decide)
  replace hlm := Lib.hid hlm
  replace hcm := Lib.hid hcm
  replace hmm := Lib.hid hmm
  go_upto_region 5 with (first
    | (at_builtin; (refine wpl_appF rfl (.tmp 27) (.tmp 28) rfl w4.heap.size (.slice (some ⟨w4.heap.size, 0, none⟩) 0 0) [] E rfl hO5.out A1 10 c1 hlE.out rfl hrd5.out hqq5.out (by decide) (by decide) hbs5.out ?_); intro vv ww hOO hgg hbb
       obtain ⟨Aa, ca, rfl, -, -⟩ := hOO.form
       have hOb := Lib.hid hOO
       have hla : ([] ++ E).length = 10 := hlE.out
       have hgu5 : Hid (Gr w4 ww) := Lib.hid (Below.trans hgv5.out hbb)
       replace hgg := Lib.hid hgg
       clear hO5 hrd5 hqq5 hOO
       rw [hla] at hOb ⊢
       replace hla := Lib.hid hla
       have htb : Hid (Calls Try.prog 16 #[.string ⟨#[97]⟩, .int .i64 3] ww fun e w' => e = .returned (tombE aKey 3).agg ∧ Gr ww w') := Lib.hid (tomb_any aKey 3 ww)
       replace hbb := Lib.hid hbb)
    | (go_at_call 16; go_must (refine htb.out.mono ?_); clear htb; rintro e w9 ⟨rfl, hg9⟩
       obtain ⟨wl, hwl⟩ : ∃ x, w9.alloc (.cells #[.int .i64 31, .int .i64 1, .int .i64 3, .int .i64 0, .string (bs aKey), .int .i64 3, .int .i64 0, .int .i64 0, .int .i64 0, .int .i64 0, .string (bs []), .slice none 0 0] 39) = x := ⟨_, rfl⟩
       have hgl : Gr w9 wl := by rw [← hwl]; exact Gr.alloc _ _
       have hrl := Lib.hid (reads_lit w9 (tombE aKey 3) rfl hwl)
       have hOl := OF.gr hgl (OF.gr hg9 hOb)
       have hql : Hid (∀ q ∈ [tombE aKey 3], FeV q wl ∧ AptF q (.slice Aa 10 ca : Value).ownBlock) := Lib.hid (fun q hq => by
         rw [List.mem_singleton] at hq
         subst hq
         exact ⟨tombE_v _ _ _, fun h => absurd h (by decide)⟩)
       have hgl2 : Hid (Gr w4 wl) := Lib.hid (hgu5.out.trans (hg9.trans hgl))
       have hbl2 : Hid (w4.heap.size ≤ wl.heap.size) := Lib.hid (Below.size hgl2.out)
       replace hg9 := Lib.hid hg9
       replace hgl := Lib.hid hgl
       clear hOb
       unfold tombE tombF Fe.agg
       simp only [List.length_nil])
    | (at_builtin; (refine wpl_appF rfl (.tmp 29) (.tmp 31) rfl w4.heap.size (.slice Aa 10 ca) ([] ++ E) [tombE aKey 3] rfl hOl.out (some ⟨w9.heap.size, 0, none⟩) 1 1 rfl rfl hrl.out hql.out (by have := hlE.out; simp; omega) (by decide) hbl2.out ?_); intro vv wm hOO hgg2 hbb2
       replace hwl := Lib.hid hwl
       obtain ⟨Am, cm, rfl, -, -⟩ := hOO.form
       have hbm := Lib.hid (bestV_any ([] ++ E ++ [tombE aKey 3]) _ wm hOO.fs hokm (by rw [hlm.out]; decide))
       rw [hcm.out, hmm.out] at hbm
       rw [hlm.out] at hbm ⊢
       have hgm : Hid (Gr w4 wm) := Lib.hid (Below.trans hgl2.out hbb2)
       replace hgg2 := Lib.hid hgg2
       replace hbb2 := Lib.hid hbb2
       clear hOl hrl hql hOO hokm)
    | (go_at_call 10; go_must (refine hbm.out.mono ?_); clear hbm; rintro e w6 ⟨B6, d6, Z6, rfl, hI6, hZ6, hg6⟩
       have hg56 := Lib.hid (hgm.out.trans hg6)
       replace hg6 := Lib.hid hg6))
  replace hv5 := Lib.hid hv5
  clear hlm hcm hmm
  have hn6 := aKp.out_old (fun _ => true) (t := tombF aKey 3) rfl (by decide) rfl hI6.out
  obtain rfl : Z6 = [] := List.map_eq_nil_iff.mp hn6
  simp only [List.length_nil]
  -- poor
  obtain ⟨wp, hwp⟩ : ∃ x, x = w6 := ⟨_, rfl⟩
  have hgq : Gr w1 w6 := hg2.out.trans (hg34.out.trans hg56.out)
  have hfp := Lib.hid ((FsV.gr hgq hfs1).out.take (k := 7) (by omega))
  have h10 : ((List.range 10).filter (fun _ => true)).take 7 = (List.range 10).filter (fun s => decide (s < 7)) := by decide
  have hEp : (E.take 7).map (fun x => x.f) = keptL aKey 3 0 (digL 0) (List.replicate 16 0) 0 (fun s => decide (s < 7)) (nSlots ⟨aKey, 3, 0, digL 0⟩) := by
    rw [List.map_take, hE.out]
    unfold aC
    rw [aSl]
    unfold keptL
    rw [← List.map_take, h10]
  have hcFp := cF_all hEp aKp.cnts
  have hokp := oks hEp (fun f hf => kept_ok aKp hf)
  have hbp := Lib.hid (bestV_any (E.take 7) (.slice A1 7 c1) w6 hfp.out hokp (by rw [List.length_take]; omega))
  rw [hcFp] at hbp
  have hc7 : (7 : Int) ≤ (c1 : Int) := by have := hfs1.out.len; omega
  replace hEp := Lib.hid hEp
  replace hcFp := Lib.hid hcFp
  clear h10
  generalize mostG (keptL aKey 3 0 (digL 0) (List.replicate 16 0) 0 (fun s => decide (s < 7)) (nSlots ⟨aKey, 3, 0, digL 0⟩)) = mg at hbp
  replace hgq := Lib.hid hgq
  replace hwp := Lib.hid hwp
  go_upto_region 6 with (go_at_call 10; go_must (refine hbp.out.mono ?_); clear hbp; rintro e w7 ⟨B7, d7, Z7, rfl, hI7, hZ7, hg7⟩; replace hg7 := Lib.hid hg7)
  have hZ70 := aKp.out_none (fun s => decide (s < 7)) hI7.out (g := 0) (by rw [aSl]; decide) (by decide)
  obtain rfl : Z7 = [] := List.map_eq_nil_iff.mp hZ70
  simp only [List.length_nil]
  obtain ⟨y0, y1, y2, y3, y4⟩ := hzc.out w7 (hg34.out.trans (hg56.out.trans hg7.out))
  rw [hzk.out] at y0
  rw [hzg.out] at y1
  rw [hzp.out] at y4
  clear y2 y3
  rw [Nat.zero_mul, Nat.add_zero] at y0
  rw [Nat.zero_mul, Nat.add_zero] at y1 y4
  go_wp2_with fail
  go_ret
  exact ⟨rfl, hg1.out.trans (hg2.out.trans (hg34.out.trans (hg56.out.trans hg7.out)))⟩
end Go.Proofs.Ytiliggleplpjbaa
