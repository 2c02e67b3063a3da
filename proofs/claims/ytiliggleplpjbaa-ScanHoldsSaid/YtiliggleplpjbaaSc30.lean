/- scan: the law of a tomb of the greatest Gen. -/
import Derived.Test.YtiliggleplpjbaaSc29
namespace Go.Proofs.Ytiliggleplpjbaa
set_option linter.unusedVariables false
set_option linter.unusedSimpArgs false
open Go Go.RowKit Go.Maps Go.Proofs
/-- rows of entries of the call's own, their places anywhere -/
def flatZ (E : List Ez) : List Value := E.flatMap Ez.cells
theorem flatZ_len (E : List Ez) : (flatZ E).length = E.length * 5 := by
  induction E with
  | nil => rfl
  | cons q l ih => simp [flatZ, Ez.cells] at *; omega
theorem flatZ_app (l m : List Ez) : flatZ (l ++ m) = flatZ l ++ flatZ m := by simp [flatZ]
theorem flatZ_at {l : List Ez} {i : Nat} {x : Ez} (h : l[i]? = some x) (j : Nat) (hj : j < 5) : (flatZ l)[i * 5 + j]? = x.cells[j]? := by
  induction l generalizing i with
  | nil => simp at h
  | cons p l ih =>
    have hp : p.cells.length = 5 := rfl
    show (p.cells ++ flatZ l)[_]? = _
    cases i with
    | zero =>
      simp at h; subst h
      rw [List.getElem?_append_left (by omega)]
      congr 1; omega
    | succ i =>
      have h' : l[i]? = some x := by simpa using h
      rw [List.getElem?_append_right (by omega), hp, show (i + 1) * 5 + j - 5 = i * 5 + j from by omega]
      exact ih h'
theorem flatZ_one (l : List Ez) : ∀ v ∈ flatZ l, v.oneCell' = true := fun v hv => by
  unfold flatZ at hv
  obtain ⟨x, -, h⟩ := List.mem_flatMap.mp hv
  simp [Ez.cells] at h
  rcases h with rfl | rfl | rfl | rfl | rfl <;> rfl
theorem flatZ_one1 (q : Ez) : flatZ [q] = q.cells := by unfold flatZ; rw [List.flatMap_cons, List.flatMap_nil, List.append_nil]
structure OZr (E : List Ez) (v : Value) (base : Nat) (w : World) : Prop where
  row : w.ownsRow base 32 5 v E.length (flatZ E)
  vs : ∀ x ∈ E, ∀ B, B = base → ∃ w0 : World, w0.heap.size ≤ B ∧ Pls x.e.places (.slice x.A x.e.places.length x.c) w0 ∧ Below base w0 w
theorem OZr.es {E : List Ez} {v : Value} {base : Nat} {w : World} (h : OZr E v base w) : EsV E v w := by
  obtain ⟨A, c, rfl, h1, h2⟩ := row_form h.row
  refine ⟨A, c, rfl, h1, h2, fun hp => ?_, fun x hx => ?_⟩
  · have hr := Reads.of_own h.row
    obtain ⟨g, cap, hv, _, hlt⟩ := World.ownsRow.form h.row hp
    have hA : A = some ⟨g, 0, none⟩ := by injection hv
    subst hA
    obtain ⟨ad, e, hb, hc⟩ := hr.2 hp
    injection e with e
    subst e
    refine ⟨g, 0, rfl, hb, fun i x hx j u hu => ?_⟩
    have hj : j < 5 := (List.getElem?_eq_some_iff.mp hu).1
    have a := hc _ u ((flatZ_at hx j hj).trans hu)
    rw [addr0] at a
    rw [show 0 + i * 5 + j = i * 5 + j from by omega]
    exact a
  · obtain ⟨w0, hs, hp, hb⟩ := h.vs x hx base rfl
    exact (Pls.gr (show Gr w0 w from Below.mono hb hs) (Lib.hid hp)).out
theorem wpl_appZ {w : World} {ops : Array Oper} {rest : List Oper} {o : Oper} {a : Act} {Q : Exit → Act → World → Prop} (hgd : o.guard = none) (s x : Operand)
    (ho : o.op = .call { callee := .builtin .append, args := #[s, x], argTypes := #[24, 24] })
    (base : Nat) (v : Value) (E : List Ez) (q : Ez) (hs : a.eval s = v) (hown : OZr E v base w) (A : Option Addr) (c : Nat) (hx : a.eval x = .slice A 1 c) (hr : Reads w w.heap.size 5 A 1 q.cells)
    (hq : ∃ w0 : World, w0.heap.size ≤ base ∧ Pls q.e.places (.slice q.A q.e.places.length q.c) w0 ∧ Below base w0 w) (hlen : E.length ≤ 1000000) (hbase : base ≤ w.heap.size)
    (h : ∀ v' w', OZr (E ++ [q]) v' base w' → Below base w w' → wpList Try.prog ops Q rest (a.put o.dst v') w') : wpList Try.prog ops Q (o :: rest) a w := by
  obtain ⟨i0, hi, hz0, hz1, hz2⟩ := info_parts info_entry
  refine wpList_plain hgd fun _ hK => wp_append_any w s x 24 ho base 32 i0 _ 5 72 Try.underlying24 hi hz0 hz1 hz2 rfl (by omega) v E.length (flatZ E) hs hown.row w.heap.size A 1 c q.cells hx hr (by have := flatZ_one [q]; simpa [flatZ] using this)
    (by simp only [maxLen]; omega) (by omega) hbase fun v' w' h2 h3 h4 => ?_
  have hb := (Below.refl base w).grown h3 hbase (fun k hk => (World.ownsRow.lt hown.row k hk).1)
  refine hK _ _ (h v' w' ⟨?_, ?_⟩ hb)
  · rw [List.length_append, flatZ_app]
    simpa [flatZ] using h2
  · intro y hy B hB
    rcases List.mem_append.mp hy with hy | hy
    · obtain ⟨w0, g1, g2, g3⟩ := hown.vs y hy B hB
      exact ⟨w0, g1, g2, Below.trans g3 hb⟩
    · simp only [List.mem_singleton] at hy
      subst hy
      obtain ⟨w0, g1, g2, g3⟩ := hq
      exact ⟨w0, by rw [hB]; exact g1, g2, Below.trans g3 hb⟩
theorem Reads.ezLit (w : World) (q : Ez) : Reads (w.alloc (.cells q.cells.toArray 32)) (w.alloc (.cells q.cells.toArray 32)).heap.size 5 (some ⟨w.heap.size, 0, none⟩) 1 q.cells :=
  ⟨rfl, fun _ => ⟨_, rfl, by simp, fun j u hu => by
    rw [addr0]
    exact cell_new w _ _ (by simpa using hu)⟩⟩
theorem cF_gen {E : List Fe} : 0 ≤ mostG (cF E) ∧ mostG (cF E) ≤ 1099511627776 := ⟨mostG_nn _, foldG_le _ 0 _ (by omega) (fun f hf => (good_gen (cnt_good (cF_cnt f hf))).2)⟩
/-- an empty slice of finds reads so -/
theorem FsV.nil0 (A : Option Addr) (c : Nat) (hc : c ≤ maxLen) (w : World) : FsV [] (.slice A 0 c) w := ⟨A, c, rfl, Nat.zero_le _, hc, fun h => absurd h (by simp), fun x h => by cases h⟩
theorem nodup_len {α : Type} [BEq α] [LawfulBEq α] {l m : List α} (hn : l.Nodup) (hs : ∀ x ∈ l, x ∈ m) : l.length ≤ m.length := by
  induction l generalizing m with
  | nil => exact Nat.zero_le _
  | cons x l ih =>
    obtain ⟨h1, h2⟩ := List.nodup_cons.mp hn
    have hx := hs x (by simp)
    have := ih (m := m.erase x) h2 (fun y hy => (List.mem_erase_of_ne (fun e : y = x => h1 (e ▸ hy))).mpr (hs y (by simp [hy])))
    rw [List.length_erase_of_mem hx] at this
    have := List.length_pos_of_mem hx
    simp
    omega
theorem cF_len (E : List Fe) : (cF E).length ≤ E.length := by
  unfold cF ctE
  rw [List.length_map]
  exact List.length_filter_le _ _
theorem out_len {C : List Fd} {out : List EnP} (h : IsOut C out) : out.length ≤ C.length := by
  have h1 := nodup_len (l := out.map (fun e => e.key)) (m := C.map (fun f => f.r.key)) (List.pairwise_map.mpr (h.2.dist.imp id)) (fun k hk => by
    obtain ⟨e, he, rfl⟩ := List.mem_map.mp hk
    obtain ⟨v, hv, -, rfl, -⟩ := h.2.is e he
    obtain ⟨f, hf, -, rfl⟩ := mem_vers.mp hv
    exact List.mem_map.mpr ⟨f, hf, rfl⟩)
  rwa [List.length_map, List.length_map] at h1
theorem cF_one (x : Fe) (h : cnt x.f = true) : cF [x] = [x.f] := by
  unfold cF ctE
  rw [List.filter_cons_of_pos (p := fun x : Fe => cnt x.f) h]
  rfl
/-- with the tomb in between -/
theorem gone_plain {E : List Fe} {j : Nat} {key : By} (k0 : 1 ≤ key.length) (k1 : key.length ≤ 16) (hok : ∀ x ∈ E, x.f.r.Ok) {a : List EnP} (ha : IsOut (cF E) a) : mostG (cF ([] ++ E.take j ++ [tombE key (mostG (cF E))] ++ E.drop j)) = mostG (cF E) ∧ IsOut (cF ([] ++ E.take j ++ [tombE key (mostG (cF E))] ++ E.drop j)) (a.filter (fun e => decide (e.key ≠ key))) ∧ (∀ x ∈ [] ++ E.take j ++ [tombE key (mostG (cF E))] ++ E.drop j, x.f.r.Ok) := by
  have hg := cF_gen (E := E)
  have htc : cnt (tombF key (mostG (cF E))) = true := tomb_cnt k0 k1 hg.1 hg.2
  have hsp : cF E = cF (E.take j) ++ cF (E.drop j) := by rw [← cF_app, List.take_append_drop]
  have hwt : cF ([] ++ E.take j ++ [tombE key (mostG (cF E))] ++ E.drop j) = cF (E.take j) ++ tombF key (mostG (cF E)) :: cF (E.drop j) := by
    rw [List.nil_append, cF_app, cF_app]
    have : cF [tombE key (mostG (cF E))] = [tombF key (mostG (cF E))] := cF_one _ htc
    rw [this, List.append_assoc]
    rfl
  rw [hwt]
  have hg2 : (tombF key (mostG (cF E))).r.gen = mostG (cF (E.take j) ++ cF (E.drop j)) := by rw [← hsp]; rfl
  refine ⟨?_, IsOut.gone (by rw [← hsp]; exact ha) rfl hg2, fun x hx => ?_⟩
  · rw [mostG_mid _ _ _ hg2, ← hsp]
  · rcases List.mem_append.mp hx with hx | hx
    · rcases List.mem_append.mp hx with hx | hx
      · rw [List.nil_append] at hx; exact hok x (List.mem_of_mem_take hx)
      · rw [List.mem_singleton] at hx; subst hx; exact tomb_ok (by simp only [maxLen]; omega) hg.1 hg.2
    · exact hok x (List.mem_of_mem_drop hx)
set_option maxRecDepth 100000 in
set_option maxHeartbeats 8000000 in
theorem scanGone_any (E : List Fe) (v : Value) (key : By) (hkm : key.length ≤ maxLen) (at_ : Nat) (hat : at_ < 256) (w : World) (hE : FsV E v w) (hok : ∀ x ∈ E, FOk x.f) : Calls Try.prog 6 #[v, .string (bs key), .int .u8 (at_ : Nat)] w fun e w' => e = .returned (.bool true) ∧ Gr w w' := by
  have hE0 := hE
  obtain ⟨A, c, rfl, -, -, -, -⟩ := hE0
  obtain ⟨m0, hm0⟩ : ∃ m, E.length = m := ⟨_, rfl⟩
  rw [hm0] at hE ⊢
  replace hm0 := Lib.hid hm0
  have hfew := Lib.hid (few_any E A m0 c w hE)
  have hawk := Lib.hid awake_any
  replace hE := Lib.hid hE
  have hks : (bs key).size = key.length := rfl
  go_enter Try.func6, Try.ntmps6
  go_upto_region 2 with (go_at_call 9; go_must (refine hfew.out.mono ?_); clear hfew; rintro e wz ⟨k, rfl, hk, hfk, hww⟩; rw [hww]; clear hww wz; replace hfk := Lib.hid hfk)
  by_cases hkey : 1 ≤ key.length ∧ key.length ≤ 16
  · obtain ⟨k0, k1⟩ := hkey
    have i0 : ¬ ((key.length : Int) < 1) := by omega
    have i1 : ¬ ((16 : Int) < (key.length : Int)) := by omega
    go_upto_region 4 with (fail)
    clear i0 i1 hks
    obtain ⟨EL, hEL⟩ : ∃ l, E.take k = l := ⟨_, rfl⟩
    have hokL : Hid (∀ x ∈ EL, x.f.r.Ok) := Lib.hid (fun x hx => by rw [← hEL] at hx; exact (hok x (List.mem_of_mem_take hx)).r)
    rw [hEL] at hfk
    have hlL := Lib.hid hfk.out.len.1
    have hb1 := Lib.hid (bestV_any EL _ w hfk.out hokL (by rw [hlL.out]; omega))
    replace hEL := Lib.hid hEL
    replace hok := Lib.hid hok
    obtain ⟨mg, hmg⟩ : ∃ z, mostG (cF EL) = z := ⟨_, rfl⟩
    rw [hmg] at hb1
    go_upto_region 5 with (go_at_call 10; go_must (refine hb1.out.mono ?_); clear hb1; rintro e w2 ⟨A2, c2, Z2, rfl, hI2, hZ2, hg2⟩; replace hg2 := Lib.hid hg2)
    have hpl := Lib.hid (fun j => gone_plain (E := EL) (j := j) (key := key) k0 k1 hokL.out hI2.out)
    rw [hmg] at hpl
    replace hmg := Lib.hid hmg
    have hL := FsV.gr hg2.out hfk
    obtain ⟨n2, hn2⟩ : ∃ n, Z2.length = n := ⟨_, rfl⟩
    rw [hn2] at hZ2 ⊢
    replace hn2 := Lib.hid hn2
    clear hfk
    go_upto_if 34 with (fail)
    go_cut [10] (fun v wq => ∃ j : Nat, v = .int .i64 j ∧ j ≤ k ∧ Hid (k = 0 ∨ j < k) ∧ w2 = wq)
    case first =>
      by_cases hk0 : k = 0
      · have i1 : ¬ (0 : Int) < (k : Int) := by omega
        replace hk0 := Lib.hid hk0
        go_wp2_with fail
        go_meet
        exact ⟨0, rfl, Nat.zero_le _, Lib.hid (.inl hk0.out), rfl⟩
      · have i1 : (0 : Int) < (k : Int) := by omega
        have i2 : ¬ (k : Int) = 0 := by omega
        have i3 : (at_ : Int) % (k : Int) = ((at_ % k : Nat) : Int) := by omega
        obtain ⟨j, hj⟩ : ∃ j : Nat, at_ % k = j := ⟨_, rfl⟩
        have hjk : j ≤ k := by rw [← hj]; exact Nat.le_of_lt (Nat.mod_lt _ (by omega))
        have hjk2 : Hid (k = 0 ∨ j < k) := Lib.hid (.inr (by rw [← hj]; exact Nat.mod_lt _ (by omega)))
        rw [hj] at i3
        replace hj := Lib.hid hj
        go_wp2_with fail
        go_meet
        exact ⟨j, by rw [i3], hjk, hjk2, rfl⟩
    case rest =>
      obtain ⟨j, rfl, hjk, hjk2, rfl⟩ := hcut
      have hp0 := hpl.out j
      obtain ⟨hm9, hI9, hok9⟩ := hp0
      replace hok9 := Lib.hid hok9
      have hlc := hL.out.len
      have hlT : Hid ((EL.take j).length = j) := Lib.hid (by rw [List.length_take]; have := hlL.out; omega)
      have hT := Lib.hid (hL.out.take (k := j) hjk)
      obtain ⟨wd, hwd⟩ : ∃ wd, wd = w2.drew := ⟨_, rfl⟩
      have hgdd : Hid (Gr w2 wd) := Lib.hid (by rw [hwd]; exact (Below.refl _ _).drew)
      have htk : Hid (tombE key mg = tombE key mg) := Lib.hid rfl
      have s1 : (j : Int) ≤ (k : Int) := by omega
      have s2 : (j : Int) ≤ (c : Int) := by omega
      have s3 : (k : Int) ≤ (c : Int) := by omega
      have s4 : (0 : Int) ≤ (j : Int) := by omega
      replace hlc := Lib.hid hlc
      go_upto_region 9 with (fail)
      go_cut [11] (fun v wq => ∃ (A9 : Option Addr) (m9 c9 : Nat), v = .slice A9 m9 c9 ∧ Hid (FsV ([] ++ EL.take j ++ [tombE key mg] ++ EL.drop j) (.slice A9 m9 c9) wq) ∧ Hid (Gr w2 wq))
      case first =>
        have hcm : c ≤ maxLen := hlc.out.2.2
        cases A with
        | none =>
          obtain rfl : k = 0 := by
            by_cases hk0 : k = 0
            · exact hk0
            · obtain ⟨x0, hx0⟩ : ∃ x, EL[0]? = some x := ⟨_, List.getElem?_eq_getElem (by have := hlL.out; omega)⟩
              obtain ⟨b, o, e, -⟩ := hL.out.get hx0
              cases e
          obtain rfl : j = 0 := by omega
          have hE0 : Hid (EL.drop 0 = []) := Lib.hid (by rw [List.drop_zero]; exact List.eq_nil_of_length_eq_zero hlL.out)
          replace hcm := Lib.hid hcm
          refine wpR_region (Below w2.heap.size) 9999 (by kernel_rfl) ?_
          (rw [← hwd]; replace hwd := Lib.hid hwd)
          refine wpR_take (i := 1) (v := ?_) (⟨fun x => Below.refl _ x, fun h1 h2 => h1.trans h2⟩) (some 41) rfl (by kernel_rfl) (by kernel_rfl) (by kernel_rfl) (by kernel_rfl) (by kernel_rfl) (fun _ _ _ h => h) (by kernel_rfl) (fun w' hw' => ?_) ?_
          rotate_left
          · go_simp; with_reducible rfl
          simp only [Act.put, List.setIfInBounds_toArray, List.set_cons_zero, List.set_cons_succ]
          refine wpR_take (i := 2) (v := ?_) (⟨fun x => Below.refl _ x, fun h1 h2 => h1.trans h2⟩) (some 42) rfl (by kernel_rfl) (by kernel_rfl) (by kernel_rfl) (by kernel_rfl) (by kernel_rfl) (fun _ _ _ h => h) (by kernel_rfl) (fun w' hw' => ?_) ?_
          rotate_left
          · go_simp; with_reducible rfl
          simp only [Act.put, List.setIfInBounds_toArray, List.set_cons_zero, List.set_cons_succ]
          refine wpR_take (i := 3) (v := ?_) (⟨fun x => Below.refl _ x, fun h1 h2 => h1.trans h2⟩) (some 43) rfl (by kernel_rfl) (by kernel_rfl) (by kernel_rfl) (by kernel_rfl) (by kernel_rfl) (fun _ _ _ h => h) (by kernel_rfl) (fun w' hw' => ?_) ?_
          rotate_left
          · go_simp; with_reducible rfl
          simp only [Act.put, List.setIfInBounds_toArray, List.set_cons_zero, List.set_cons_succ]
          refine wpR_take (i := 5) (v := ?_) (⟨fun x => Below.refl _ x, fun h1 h2 => h1.trans h2⟩) (some 45) rfl (by kernel_rfl) (by kernel_rfl) (by kernel_rfl) (by kernel_rfl) (by kernel_rfl) (fun _ _ _ h => h) (by kernel_rfl) (fun w' hw' => ?_) ?_
          rotate_left
          · go_simp; with_reducible rfl
          simp only [Act.put, List.setIfInBounds_toArray, List.set_cons_zero, List.set_cons_succ]
          refine wpR_take (i := 6) (v := ?_) (⟨fun x => Below.refl _ x, fun h1 h2 => h1.trans h2⟩) (some 46) rfl (by kernel_rfl) (by kernel_rfl) (by kernel_rfl) (by kernel_rfl) (by kernel_rfl) (fun _ _ _ h => h) (by kernel_rfl) (fun w' hw' => ?_) ?_
          rotate_left
          · go_simp; with_reducible rfl
          simp only [Act.put, List.setIfInBounds_toArray, List.set_cons_zero, List.set_cons_succ]
          refine wpR_take (i := 10) (v := ?_) (⟨fun x => Below.refl _ x, fun h1 h2 => h1.trans h2⟩) (some 50) rfl (by kernel_rfl) (by kernel_rfl) (by kernel_rfl) (by kernel_rfl) (by kernel_rfl) (fun _ _ _ h => h) (by kernel_rfl) (fun w' hw' => ?_) ?_
          rotate_left
          · go_simp; with_reducible rfl
          simp only [Act.put, List.setIfInBounds_toArray, List.set_cons_zero, List.set_cons_succ]
          refine wpR_take (i := 11) (v := ?_) (⟨fun x => Below.refl _ x, fun h1 h2 => h1.trans h2⟩) (some 51) rfl (by kernel_rfl) (by kernel_rfl) (by kernel_rfl) (by kernel_rfl) (by kernel_rfl) (fun _ _ _ h => h) (by kernel_rfl) (fun w' hw' => ?_) ?_
          rotate_left
          · go_simp; with_reducible rfl
          simp only [Act.put, List.setIfInBounds_toArray, List.set_cons_zero, List.set_cons_succ]
          refine wpR_take (i := 12) (v := ?_) (⟨fun x => Below.refl _ x, fun h1 h2 => h1.trans h2⟩) (some 52) rfl (by kernel_rfl) (by kernel_rfl) (by kernel_rfl) (by kernel_rfl) (by kernel_rfl) (fun _ _ _ h => h) (by kernel_rfl) (fun w' hw' => ?_) ?_
          rotate_left
          · go_simp; with_reducible rfl
          simp only [Act.put, List.setIfInBounds_toArray, List.set_cons_zero, List.set_cons_succ]
          refine wpR_one 0 rfl (by kernel_rfl) (by kernel_rfl) (fun K hK => ?_)
          go_simp
          refine hK _ _ (fun _ => Below.mono (Gr.alloc _ _) (Below.size hgdd.out)) ?_
          clear hK K
          obtain ⟨V0, hV0⟩ : ∃ x, wd.alloc (.cells #[] 39) = x := ⟨_, rfl⟩
          have hk0 : Below w2.heap.size wd V0 := by rw [← hV0]; exact Below.mono (Gr.alloc _ _) (Below.size hgdd.out)
          have hO0 := OF.lit0 hV0 (base := w2.heap.size) (Below.size hgdd.out)
          rw [hV0]
          obtain ⟨P0, hP0⟩ : ∃ n, wd.heap.size = n := ⟨_, rfl⟩
          rw [hP0] at hO0 ⊢
          have hOF0 := Lib.hid hO0
          have hq0 : Hid (Gr w2 V0) := Lib.hid (Below.trans hgdd.out hk0)
          replace hV0 := Lib.hid hV0
          replace hP0 := Lib.hid hP0
          clear hO0 hk0
          try simp only [Act.put, List.setIfInBounds_toArray, List.set_cons_zero, List.set_cons_succ]
          refine wpR_one 4 rfl (by kernel_rfl) (by kernel_rfl) (fun K hK => ?_)
          refine wp_appF (.tmp 40) (.tmp 43) rfl w2.heap.size (.slice (some ⟨P0, 0, none⟩) 0 0) [] (EL.take 0) rfl hOF0.out _ 0 _ hlT.out rfl (FsV.gr hq0.out hT).out.reads (OF.apt hT.out hq0.out hOF0.out (Nat.le_refl _)) (by decide) (by omega) (Below.size hq0.out) ?_
          intro vv V4 hOO hgg hk4
          obtain ⟨Aa, ca, rfl, -, -⟩ := hOO.form
          have hla : ([] ++ EL.take 0).length = 0 := hlT.out
          refine hK _ _ (fun _ => hk4) ?_
          clear hK K
          rw [hla] at hOO ⊢
          have hOF4 := Lib.hid hOO
          have hq4 : Hid (Gr w2 V4) := Lib.hid (Below.trans hq0.out hk4)
          replace hla := Lib.hid hla
          clear hOO hgg hk4
          try simp only [List.getElem_toArray, List.getElem_cons_succ, List.getElem_cons_zero]
          try simp only [Act.put, List.setIfInBounds_toArray, List.set_cons_zero, List.set_cons_succ]
          refine wpR_one 7 rfl (by kernel_rfl) (by kernel_rfl) (fun K hK => ?_)
          go_simp
          refine (tomb_any key mg V4).mono ?_
          rintro e V7 ⟨rfl, hk7'⟩
          have hk7 : Below w2.heap.size V4 V7 := Below.mono hk7' (Below.size hq4.out)
          refine hK _ _ (fun _ => hk7) ?_
          clear hK K
          have hOF7 := OF.gr hk7' hOF4
          have hq7 : Hid (Gr w2 V7) := Lib.hid (Below.trans hq4.out hk7)
          clear hk7 hk7'
          unfold tombE tombF Fe.agg
          simp only [List.length_nil]
          try simp only [Act.put, List.setIfInBounds_toArray, List.set_cons_zero, List.set_cons_succ]
          refine wpR_one 8 rfl (by kernel_rfl) (by kernel_rfl) (fun K hK => ?_)
          go_simp
          refine hK _ _ (fun _ => Below.mono (Gr.alloc _ _) (Below.size hq7.out)) ?_
          clear hK K
          obtain ⟨V8, hV8⟩ : ∃ x, V7.alloc (.cells #[.int .i64 31, .int .i64 1, .int .i64 3, .int .i64 0, .string (bs key), .int .i64 mg, .int .i64 0, .int .i64 0, .int .i64 0, .int .i64 0, .string (bs []), .slice none 0 0] 39) = x := ⟨_, rfl⟩
          have hk8' : Gr V7 V8 := by rw [← hV8]; exact Gr.alloc _ _
          have hk8 : Below w2.heap.size V7 V8 := Below.mono hk8' (Below.size hq7.out)
          have hrl := Lib.hid (reads_lit V7 (tombE key mg) rfl hV8)
          rw [hV8]
          have hOF8 := OF.gr hk8' hOF7
          have hq8 : Hid (Gr w2 V8) := Lib.hid (Below.trans hq7.out hk8)
          replace hV8 := Lib.hid hV8
          clear hk8 hk8'
          try simp only [Act.put, List.setIfInBounds_toArray, List.set_cons_zero, List.set_cons_succ]
          refine wpR_one 9 rfl (by kernel_rfl) (by kernel_rfl) (fun K hK => ?_)
          have htq : ∀ y ∈ [tombE key mg], FeV y V8 ∧ AptF y (.slice Aa 0 ca : Value).ownBlock := fun y hy => by
            rw [List.mem_singleton] at hy
            subst hy
            exact ⟨tombE_v _ _ _, fun h => absurd h (by show ¬ (0 < ([] : By).length); decide)⟩
          refine wp_appF (.tmp 44) (.tmp 48) rfl w2.heap.size (.slice Aa 0 ca) ([] ++ EL.take 0) [tombE key mg] rfl hOF8.out (some ⟨V7.heap.size, 0, none⟩) 1 1 rfl rfl hrl.out htq (by have := hla.out; omega) (by decide) (Below.size hq8.out) ?_
          intro vv V9 hOO hgg hk9
          obtain ⟨Ab, cb, rfl, -, -⟩ := hOO.form
          refine hK _ _ (fun _ => hk9) ?_
          clear hK K
          obtain ⟨m1, hm1⟩ : ∃ n, ([] ++ EL.take 0 ++ [tombE key mg]).length = n := ⟨_, rfl⟩
          rw [hm1] at hOO ⊢
          have hOF9 := Lib.hid hOO
          have hq9 : Hid (Gr w2 V9) := Lib.hid (Below.trans hq8.out hk9)
          have hm1' : Hid (m1 ≤ 131) := Lib.hid (by have := hla.out; rw [← hm1, List.length_append, this]; simp only [List.length_singleton]; omega)
          replace hm1 := Lib.hid hm1
          clear hOO hgg hk9 htq
          try simp only [List.getElem_toArray, List.getElem_cons_succ, List.getElem_cons_zero]
          try simp only [Act.put, List.setIfInBounds_toArray, List.set_cons_zero, List.set_cons_succ]
          refine wpR_one 13 rfl (by kernel_rfl) (by kernel_rfl) (fun K hK => ?_)
          have hD0 : ∀ (A5 : Option Addr) (c5 : Nat), c5 ≤ c → FsV (EL.drop 0) (.slice A5 0 c5) V9 := fun A5 c5 h5 => by rw [hE0.out]; exact FsV.nil0 _ _ (by have := hcm.out; omega) _
          have hD1 : ∀ (A5 : Option Addr) (c5 : Nat), c5 ≤ c → FsV (EL.drop 0) (.slice A5 0 c5) w2 := fun A5 c5 h5 => by rw [hE0.out]; exact FsV.nil0 _ _ (by have := hcm.out; omega) _
          refine wp_appF (.tmp 49) (.tmp 52) rfl w2.heap.size (.slice Ab m1 cb) ([] ++ EL.take 0 ++ [tombE key mg]) (EL.drop 0) rfl hOF9.out _ 0 _ (by rw [hE0.out]; rfl) rfl (hD0 _ c (Nat.le_refl _)).reads (OF.apt (hD1 none c (Nat.le_refl _)) hq9.out hOF9.out (Nat.le_refl _)) (by have := hm1'.out; have := hm1.out; omega) (by omega) (Below.size hq9.out) ?_
          intro vv V13 hOO hgg hk13
          obtain ⟨Ac, cc, rfl, -, -⟩ := hOO.form
          refine hK _ _ (fun _ => hk13) ?_
          clear hK K
          have hfs := Lib.hid hOO.fs
          obtain ⟨m2, hm2⟩ : ∃ n, ([] ++ EL.take 0 ++ [tombE key mg] ++ EL.drop 0).length = n := ⟨_, rfl⟩
          rw [hm2] at hfs ⊢
          have hq13 : Hid (Gr w2 V13) := Lib.hid (Below.trans hq9.out hk13)
          replace hm2 := Lib.hid hm2
          clear hOO hgg hk13
          try simp only [List.getElem_toArray, List.getElem_cons_succ, List.getElem_cons_zero]
          try simp only [Act.put, List.setIfInBounds_toArray, List.set_cons_zero, List.set_cons_succ]
          refine wpR_take (i := 14) (v := ?_) (⟨fun x => Below.refl _ x, fun h1 h2 => h1.trans h2⟩) (some 11) rfl (by kernel_rfl) (by kernel_rfl) (by kernel_rfl) (by kernel_rfl) (by kernel_rfl) (fun _ _ _ h => h) (by kernel_rfl) (fun w' hw' => ?_) ?_
          rotate_left
          · go_simp; with_reducible rfl
          simp only [Act.put, List.setIfInBounds_toArray, List.set_cons_zero, List.set_cons_succ]
          refine wpR_done (by kernel_rfl) ?_ _
          go_wp2_with fail
          go_meet
          exact ⟨Ac, m2, cc, rfl, hfs, hq13⟩
        | some ad =>
          by_cases hk0 : k = 0
          · obtain ⟨ab, ao, ap⟩ := ad
            subst hk0
            obtain rfl : j = 0 := by omega
            have hE0 : Hid (EL.drop 0 = []) := Lib.hid (by rw [List.drop_zero]; exact List.eq_nil_of_length_eq_zero hlL.out)
            replace hcm := Lib.hid hcm
            refine wpR_region (Below w2.heap.size) 9999 (by kernel_rfl) ?_
            (rw [← hwd]; replace hwd := Lib.hid hwd)
            refine wpR_take (i := 1) (v := ?_) (⟨fun x => Below.refl _ x, fun h1 h2 => h1.trans h2⟩) (some 41) rfl (by kernel_rfl) (by kernel_rfl) (by kernel_rfl) (by kernel_rfl) (by kernel_rfl) (fun _ _ _ h => h) (by kernel_rfl) (fun w' hw' => ?_) ?_
            rotate_left
            · go_simp; with_reducible rfl
            simp only [Act.put, List.setIfInBounds_toArray, List.set_cons_zero, List.set_cons_succ]
            refine wpR_take (i := 2) (v := ?_) (⟨fun x => Below.refl _ x, fun h1 h2 => h1.trans h2⟩) (some 42) rfl (by kernel_rfl) (by kernel_rfl) (by kernel_rfl) (by kernel_rfl) (by kernel_rfl) (fun _ _ _ h => h) (by kernel_rfl) (fun w' hw' => ?_) ?_
            rotate_left
            · go_simp; with_reducible rfl
            simp only [Act.put, List.setIfInBounds_toArray, List.set_cons_zero, List.set_cons_succ]
            refine wpR_take (i := 3) (v := ?_) (⟨fun x => Below.refl _ x, fun h1 h2 => h1.trans h2⟩) (some 43) rfl (by kernel_rfl) (by kernel_rfl) (by kernel_rfl) (by kernel_rfl) (by kernel_rfl) (fun _ _ _ h => h) (by kernel_rfl) (fun w' hw' => ?_) ?_
            rotate_left
            · go_simp; with_reducible rfl
            simp only [Act.put, List.setIfInBounds_toArray, List.set_cons_zero, List.set_cons_succ]
            refine wpR_take (i := 5) (v := ?_) (⟨fun x => Below.refl _ x, fun h1 h2 => h1.trans h2⟩) (some 45) rfl (by kernel_rfl) (by kernel_rfl) (by kernel_rfl) (by kernel_rfl) (by kernel_rfl) (fun _ _ _ h => h) (by kernel_rfl) (fun w' hw' => ?_) ?_
            rotate_left
            · go_simp; with_reducible rfl
            simp only [Act.put, List.setIfInBounds_toArray, List.set_cons_zero, List.set_cons_succ]
            refine wpR_take (i := 6) (v := ?_) (⟨fun x => Below.refl _ x, fun h1 h2 => h1.trans h2⟩) (some 46) rfl (by kernel_rfl) (by kernel_rfl) (by kernel_rfl) (by kernel_rfl) (by kernel_rfl) (fun _ _ _ h => h) (by kernel_rfl) (fun w' hw' => ?_) ?_
            rotate_left
            · go_simp; with_reducible rfl
            simp only [Act.put, List.setIfInBounds_toArray, List.set_cons_zero, List.set_cons_succ]
            refine wpR_take (i := 10) (v := ?_) (⟨fun x => Below.refl _ x, fun h1 h2 => h1.trans h2⟩) (some 50) rfl (by kernel_rfl) (by kernel_rfl) (by kernel_rfl) (by kernel_rfl) (by kernel_rfl) (fun _ _ _ h => h) (by kernel_rfl) (fun w' hw' => ?_) ?_
            rotate_left
            · go_simp; with_reducible rfl
            simp only [Act.put, List.setIfInBounds_toArray, List.set_cons_zero, List.set_cons_succ]
            refine wpR_take (i := 11) (v := ?_) (⟨fun x => Below.refl _ x, fun h1 h2 => h1.trans h2⟩) (some 51) rfl (by kernel_rfl) (by kernel_rfl) (by kernel_rfl) (by kernel_rfl) (by kernel_rfl) (fun _ _ _ h => h) (by kernel_rfl) (fun w' hw' => ?_) ?_
            rotate_left
            · go_simp; with_reducible rfl
            simp only [Act.put, List.setIfInBounds_toArray, List.set_cons_zero, List.set_cons_succ]
            refine wpR_take (i := 12) (v := ?_) (⟨fun x => Below.refl _ x, fun h1 h2 => h1.trans h2⟩) (some 52) rfl (by kernel_rfl) (by kernel_rfl) (by kernel_rfl) (by kernel_rfl) (by kernel_rfl) (fun _ _ _ h => h) (by kernel_rfl) (fun w' hw' => ?_) ?_
            rotate_left
            · go_simp; with_reducible rfl
            simp only [Act.put, List.setIfInBounds_toArray, List.set_cons_zero, List.set_cons_succ]
            refine wpR_one 0 rfl (by kernel_rfl) (by kernel_rfl) (fun K hK => ?_)
            go_simp
            refine hK _ _ (fun _ => Below.mono (Gr.alloc _ _) (Below.size hgdd.out)) ?_
            clear hK K
            obtain ⟨V0, hV0⟩ : ∃ x, wd.alloc (.cells #[] 39) = x := ⟨_, rfl⟩
            have hk0 : Below w2.heap.size wd V0 := by rw [← hV0]; exact Below.mono (Gr.alloc _ _) (Below.size hgdd.out)
            have hO0 := OF.lit0 hV0 (base := w2.heap.size) (Below.size hgdd.out)
            rw [hV0]
            obtain ⟨P0, hP0⟩ : ∃ n, wd.heap.size = n := ⟨_, rfl⟩
            rw [hP0] at hO0 ⊢
            have hOF0 := Lib.hid hO0
            have hq0 : Hid (Gr w2 V0) := Lib.hid (Below.trans hgdd.out hk0)
            replace hV0 := Lib.hid hV0
            replace hP0 := Lib.hid hP0
            clear hO0 hk0
            try simp only [Act.put, List.setIfInBounds_toArray, List.set_cons_zero, List.set_cons_succ]
            refine wpR_one 4 rfl (by kernel_rfl) (by kernel_rfl) (fun K hK => ?_)
            refine wp_appF (.tmp 40) (.tmp 43) rfl w2.heap.size (.slice (some ⟨P0, 0, none⟩) 0 0) [] (EL.take 0) rfl hOF0.out _ 0 _ hlT.out rfl (FsV.gr hq0.out hT).out.reads (OF.apt hT.out hq0.out hOF0.out (Nat.le_refl _)) (by decide) (by omega) (Below.size hq0.out) ?_
            intro vv V4 hOO hgg hk4
            obtain ⟨Aa, ca, rfl, -, -⟩ := hOO.form
            have hla : ([] ++ EL.take 0).length = 0 := hlT.out
            refine hK _ _ (fun _ => hk4) ?_
            clear hK K
            rw [hla] at hOO ⊢
            have hOF4 := Lib.hid hOO
            have hq4 : Hid (Gr w2 V4) := Lib.hid (Below.trans hq0.out hk4)
            replace hla := Lib.hid hla
            clear hOO hgg hk4
            try simp only [List.getElem_toArray, List.getElem_cons_succ, List.getElem_cons_zero]
            try simp only [Act.put, List.setIfInBounds_toArray, List.set_cons_zero, List.set_cons_succ]
            refine wpR_one 7 rfl (by kernel_rfl) (by kernel_rfl) (fun K hK => ?_)
            go_simp
            refine (tomb_any key mg V4).mono ?_
            rintro e V7 ⟨rfl, hk7'⟩
            have hk7 : Below w2.heap.size V4 V7 := Below.mono hk7' (Below.size hq4.out)
            refine hK _ _ (fun _ => hk7) ?_
            clear hK K
            have hOF7 := OF.gr hk7' hOF4
            have hq7 : Hid (Gr w2 V7) := Lib.hid (Below.trans hq4.out hk7)
            clear hk7 hk7'
            unfold tombE tombF Fe.agg
            simp only [List.length_nil]
            try simp only [Act.put, List.setIfInBounds_toArray, List.set_cons_zero, List.set_cons_succ]
            refine wpR_one 8 rfl (by kernel_rfl) (by kernel_rfl) (fun K hK => ?_)
            go_simp
            refine hK _ _ (fun _ => Below.mono (Gr.alloc _ _) (Below.size hq7.out)) ?_
            clear hK K
            obtain ⟨V8, hV8⟩ : ∃ x, V7.alloc (.cells #[.int .i64 31, .int .i64 1, .int .i64 3, .int .i64 0, .string (bs key), .int .i64 mg, .int .i64 0, .int .i64 0, .int .i64 0, .int .i64 0, .string (bs []), .slice none 0 0] 39) = x := ⟨_, rfl⟩
            have hk8' : Gr V7 V8 := by rw [← hV8]; exact Gr.alloc _ _
            have hk8 : Below w2.heap.size V7 V8 := Below.mono hk8' (Below.size hq7.out)
            have hrl := Lib.hid (reads_lit V7 (tombE key mg) rfl hV8)
            rw [hV8]
            have hOF8 := OF.gr hk8' hOF7
            have hq8 : Hid (Gr w2 V8) := Lib.hid (Below.trans hq7.out hk8)
            replace hV8 := Lib.hid hV8
            clear hk8 hk8'
            try simp only [Act.put, List.setIfInBounds_toArray, List.set_cons_zero, List.set_cons_succ]
            refine wpR_one 9 rfl (by kernel_rfl) (by kernel_rfl) (fun K hK => ?_)
            have htq : ∀ y ∈ [tombE key mg], FeV y V8 ∧ AptF y (.slice Aa 0 ca : Value).ownBlock := fun y hy => by
              rw [List.mem_singleton] at hy
              subst hy
              exact ⟨tombE_v _ _ _, fun h => absurd h (by show ¬ (0 < ([] : By).length); decide)⟩
            refine wp_appF (.tmp 44) (.tmp 48) rfl w2.heap.size (.slice Aa 0 ca) ([] ++ EL.take 0) [tombE key mg] rfl hOF8.out (some ⟨V7.heap.size, 0, none⟩) 1 1 rfl rfl hrl.out htq (by have := hla.out; omega) (by decide) (Below.size hq8.out) ?_
            intro vv V9 hOO hgg hk9
            obtain ⟨Ab, cb, rfl, -, -⟩ := hOO.form
            refine hK _ _ (fun _ => hk9) ?_
            clear hK K
            obtain ⟨m1, hm1⟩ : ∃ n, ([] ++ EL.take 0 ++ [tombE key mg]).length = n := ⟨_, rfl⟩
            rw [hm1] at hOO ⊢
            have hOF9 := Lib.hid hOO
            have hq9 : Hid (Gr w2 V9) := Lib.hid (Below.trans hq8.out hk9)
            have hm1' : Hid (m1 ≤ 131) := Lib.hid (by have := hla.out; rw [← hm1, List.length_append, this]; simp only [List.length_singleton]; omega)
            replace hm1 := Lib.hid hm1
            clear hOO hgg hk9 htq
            try simp only [List.getElem_toArray, List.getElem_cons_succ, List.getElem_cons_zero]
            try simp only [Act.put, List.setIfInBounds_toArray, List.set_cons_zero, List.set_cons_succ]
            refine wpR_one 13 rfl (by kernel_rfl) (by kernel_rfl) (fun K hK => ?_)
            have hD0 : ∀ (A5 : Option Addr) (c5 : Nat), c5 ≤ c → FsV (EL.drop 0) (.slice A5 0 c5) V9 := fun A5 c5 h5 => by rw [hE0.out]; exact FsV.nil0 _ _ (by have := hcm.out; omega) _
            have hD1 : ∀ (A5 : Option Addr) (c5 : Nat), c5 ≤ c → FsV (EL.drop 0) (.slice A5 0 c5) w2 := fun A5 c5 h5 => by rw [hE0.out]; exact FsV.nil0 _ _ (by have := hcm.out; omega) _
            refine wp_appF (.tmp 49) (.tmp 52) rfl w2.heap.size (.slice Ab m1 cb) ([] ++ EL.take 0 ++ [tombE key mg]) (EL.drop 0) rfl hOF9.out _ 0 _ (by rw [hE0.out]; rfl) rfl (hD0 _ c (Nat.le_refl _)).reads (OF.apt (hD1 none c (Nat.le_refl _)) hq9.out hOF9.out (Nat.le_refl _)) (by have := hm1'.out; have := hm1.out; omega) (by omega) (Below.size hq9.out) ?_
            intro vv V13 hOO hgg hk13
            obtain ⟨Ac, cc, rfl, -, -⟩ := hOO.form
            refine hK _ _ (fun _ => hk13) ?_
            clear hK K
            have hfs := Lib.hid hOO.fs
            obtain ⟨m2, hm2⟩ : ∃ n, ([] ++ EL.take 0 ++ [tombE key mg] ++ EL.drop 0).length = n := ⟨_, rfl⟩
            rw [hm2] at hfs ⊢
            have hq13 : Hid (Gr w2 V13) := Lib.hid (Below.trans hq9.out hk13)
            replace hm2 := Lib.hid hm2
            clear hOO hgg hk13
            try simp only [List.getElem_toArray, List.getElem_cons_succ, List.getElem_cons_zero]
            try simp only [Act.put, List.setIfInBounds_toArray, List.set_cons_zero, List.set_cons_succ]
            refine wpR_take (i := 14) (v := ?_) (⟨fun x => Below.refl _ x, fun h1 h2 => h1.trans h2⟩) (some 11) rfl (by kernel_rfl) (by kernel_rfl) (by kernel_rfl) (by kernel_rfl) (by kernel_rfl) (fun _ _ _ h => h) (by kernel_rfl) (fun w' hw' => ?_) ?_
            rotate_left
            · go_simp; with_reducible rfl
            simp only [Act.put, List.setIfInBounds_toArray, List.set_cons_zero, List.set_cons_succ]
            refine wpR_done (by kernel_rfl) ?_ _
            go_wp2_with fail
            go_meet
            exact ⟨Ac, m2, cc, rfl, hfs, hq13⟩
          · obtain ⟨x0, hx0⟩ : ∃ x, EL[0]? = some x := ⟨_, List.getElem?_eq_getElem (by have := hlL.out; omega)⟩
            obtain ⟨ab, ao, e, -⟩ := hL.out.get hx0
            injection e with e
            subst e
            have hDr := Lib.hid (hL.out.drop (k := j) hjk)
            have hcj : ¬ c = j := by have := hjk2.out; omega
            replace hx0 := Lib.hid hx0
            replace hcm := Lib.hid hcm
            replace hk0 := Lib.hid hk0
            refine wpR_region (Below w2.heap.size) 9999 (by kernel_rfl) ?_
            (rw [← hwd]; replace hwd := Lib.hid hwd)
            refine wpR_take (i := 1) (v := ?_) (⟨fun x => Below.refl _ x, fun h1 h2 => h1.trans h2⟩) (some 41) rfl (by kernel_rfl) (by kernel_rfl) (by kernel_rfl) (by kernel_rfl) (by kernel_rfl) (fun _ _ _ h => h) (by kernel_rfl) (fun w' hw' => ?_) ?_
            rotate_left
            · go_simp; with_reducible rfl
            simp only [Act.put, List.setIfInBounds_toArray, List.set_cons_zero, List.set_cons_succ]
            refine wpR_take (i := 2) (v := ?_) (⟨fun x => Below.refl _ x, fun h1 h2 => h1.trans h2⟩) (some 42) rfl (by kernel_rfl) (by kernel_rfl) (by kernel_rfl) (by kernel_rfl) (by kernel_rfl) (fun _ _ _ h => h) (by kernel_rfl) (fun w' hw' => ?_) ?_
            rotate_left
            · go_simp; with_reducible rfl
            simp only [Act.put, List.setIfInBounds_toArray, List.set_cons_zero, List.set_cons_succ]
            refine wpR_take (i := 3) (v := ?_) (⟨fun x => Below.refl _ x, fun h1 h2 => h1.trans h2⟩) (some 43) rfl (by kernel_rfl) (by kernel_rfl) (by kernel_rfl) (by kernel_rfl) (by kernel_rfl) (fun _ _ _ h => h) (by kernel_rfl) (fun w' hw' => ?_) ?_
            rotate_left
            · go_simp; with_reducible rfl
            simp only [Act.put, List.setIfInBounds_toArray, List.set_cons_zero, List.set_cons_succ]
            refine wpR_take (i := 5) (v := ?_) (⟨fun x => Below.refl _ x, fun h1 h2 => h1.trans h2⟩) (some 45) rfl (by kernel_rfl) (by kernel_rfl) (by kernel_rfl) (by kernel_rfl) (by kernel_rfl) (fun _ _ _ h => h) (by kernel_rfl) (fun w' hw' => ?_) ?_
            rotate_left
            · go_simp; with_reducible rfl
            simp only [Act.put, List.setIfInBounds_toArray, List.set_cons_zero, List.set_cons_succ]
            refine wpR_take (i := 6) (v := ?_) (⟨fun x => Below.refl _ x, fun h1 h2 => h1.trans h2⟩) (some 46) rfl (by kernel_rfl) (by kernel_rfl) (by kernel_rfl) (by kernel_rfl) (by kernel_rfl) (fun _ _ _ h => h) (by kernel_rfl) (fun w' hw' => ?_) ?_
            rotate_left
            · go_simp; with_reducible rfl
            simp only [Act.put, List.setIfInBounds_toArray, List.set_cons_zero, List.set_cons_succ]
            refine wpR_take (i := 10) (v := ?_) (⟨fun x => Below.refl _ x, fun h1 h2 => h1.trans h2⟩) (some 50) rfl (by kernel_rfl) (by kernel_rfl) (by kernel_rfl) (by kernel_rfl) (by kernel_rfl) (fun _ _ _ h => h) (by kernel_rfl) (fun w' hw' => ?_) ?_
            rotate_left
            · go_simp; with_reducible rfl
            simp only [Act.put, List.setIfInBounds_toArray, List.set_cons_zero, List.set_cons_succ]
            refine wpR_take (i := 11) (v := ?_) (⟨fun x => Below.refl _ x, fun h1 h2 => h1.trans h2⟩) (some 51) rfl (by kernel_rfl) (by kernel_rfl) (by kernel_rfl) (by kernel_rfl) (by kernel_rfl) (fun _ _ _ h => h) (by kernel_rfl) (fun w' hw' => ?_) ?_
            rotate_left
            · go_simp; with_reducible rfl
            simp only [Act.put, List.setIfInBounds_toArray, List.set_cons_zero, List.set_cons_succ]
            refine wpR_take (i := 12) (v := ?_) (⟨fun x => Below.refl _ x, fun h1 h2 => h1.trans h2⟩) (some 52) rfl (by kernel_rfl) (by kernel_rfl) (by kernel_rfl) (by kernel_rfl) (by kernel_rfl) (fun _ _ _ h => h) (by kernel_rfl) (fun w' hw' => ?_) ?_
            rotate_left
            · go_simp; with_reducible rfl
            simp only [Act.put, List.setIfInBounds_toArray, List.set_cons_zero, List.set_cons_succ]
            refine wpR_one 0 rfl (by kernel_rfl) (by kernel_rfl) (fun K hK => ?_)
            go_simp
            refine hK _ _ (fun _ => Below.mono (Gr.alloc _ _) (Below.size hgdd.out)) ?_
            clear hK K
            obtain ⟨V0, hV0⟩ : ∃ x, wd.alloc (.cells #[] 39) = x := ⟨_, rfl⟩
            have hk0 : Below w2.heap.size wd V0 := by rw [← hV0]; exact Below.mono (Gr.alloc _ _) (Below.size hgdd.out)
            have hO0 := OF.lit0 hV0 (base := w2.heap.size) (Below.size hgdd.out)
            rw [hV0]
            obtain ⟨P0, hP0⟩ : ∃ n, wd.heap.size = n := ⟨_, rfl⟩
            rw [hP0] at hO0 ⊢
            have hOF0 := Lib.hid hO0
            have hq0 : Hid (Gr w2 V0) := Lib.hid (Below.trans hgdd.out hk0)
            replace hV0 := Lib.hid hV0
            replace hP0 := Lib.hid hP0
            clear hO0 hk0
            try simp only [Act.put, List.setIfInBounds_toArray, List.set_cons_zero, List.set_cons_succ]
            refine wpR_one 4 rfl (by kernel_rfl) (by kernel_rfl) (fun K hK => ?_)
            refine wp_appF (.tmp 40) (.tmp 43) rfl w2.heap.size (.slice (some ⟨P0, 0, none⟩) 0 0) [] (EL.take j) rfl hOF0.out _ j _ hlT.out rfl (FsV.gr hq0.out hT).out.reads (OF.apt hT.out hq0.out hOF0.out (Nat.le_refl _)) (by decide) (by omega) (Below.size hq0.out) ?_
            intro vv V4 hOO hgg hk4
            obtain ⟨Aa, ca, rfl, -, -⟩ := hOO.form
            have hla : ([] ++ EL.take j).length = j := hlT.out
            refine hK _ _ (fun _ => hk4) ?_
            clear hK K
            rw [hla] at hOO ⊢
            have hOF4 := Lib.hid hOO
            have hq4 : Hid (Gr w2 V4) := Lib.hid (Below.trans hq0.out hk4)
            replace hla := Lib.hid hla
            clear hOO hgg hk4
            try simp only [List.getElem_toArray, List.getElem_cons_succ, List.getElem_cons_zero]
            try simp only [Act.put, List.setIfInBounds_toArray, List.set_cons_zero, List.set_cons_succ]
            refine wpR_one 7 rfl (by kernel_rfl) (by kernel_rfl) (fun K hK => ?_)
            go_simp
            refine (tomb_any key mg V4).mono ?_
            rintro e V7 ⟨rfl, hk7'⟩
            have hk7 : Below w2.heap.size V4 V7 := Below.mono hk7' (Below.size hq4.out)
            refine hK _ _ (fun _ => hk7) ?_
            clear hK K
            have hOF7 := OF.gr hk7' hOF4
            have hq7 : Hid (Gr w2 V7) := Lib.hid (Below.trans hq4.out hk7)
            clear hk7 hk7'
            unfold tombE tombF Fe.agg
            simp only [List.length_nil]
            try simp only [Act.put, List.setIfInBounds_toArray, List.set_cons_zero, List.set_cons_succ]
            refine wpR_one 8 rfl (by kernel_rfl) (by kernel_rfl) (fun K hK => ?_)
            go_simp
            refine hK _ _ (fun _ => Below.mono (Gr.alloc _ _) (Below.size hq7.out)) ?_
            clear hK K
            obtain ⟨V8, hV8⟩ : ∃ x, V7.alloc (.cells #[.int .i64 31, .int .i64 1, .int .i64 3, .int .i64 0, .string (bs key), .int .i64 mg, .int .i64 0, .int .i64 0, .int .i64 0, .int .i64 0, .string (bs []), .slice none 0 0] 39) = x := ⟨_, rfl⟩
            have hk8' : Gr V7 V8 := by rw [← hV8]; exact Gr.alloc _ _
            have hk8 : Below w2.heap.size V7 V8 := Below.mono hk8' (Below.size hq7.out)
            have hrl := Lib.hid (reads_lit V7 (tombE key mg) rfl hV8)
            rw [hV8]
            have hOF8 := OF.gr hk8' hOF7
            have hq8 : Hid (Gr w2 V8) := Lib.hid (Below.trans hq7.out hk8)
            replace hV8 := Lib.hid hV8
            clear hk8 hk8'
            try simp only [Act.put, List.setIfInBounds_toArray, List.set_cons_zero, List.set_cons_succ]
            refine wpR_one 9 rfl (by kernel_rfl) (by kernel_rfl) (fun K hK => ?_)
            have htq : ∀ y ∈ [tombE key mg], FeV y V8 ∧ AptF y (.slice Aa j ca : Value).ownBlock := fun y hy => by
              rw [List.mem_singleton] at hy
              subst hy
              exact ⟨tombE_v _ _ _, fun h => absurd h (by show ¬ (0 < ([] : By).length); decide)⟩
            refine wp_appF (.tmp 44) (.tmp 48) rfl w2.heap.size (.slice Aa j ca) ([] ++ EL.take j) [tombE key mg] rfl hOF8.out (some ⟨V7.heap.size, 0, none⟩) 1 1 rfl rfl hrl.out htq (by have := hla.out; omega) (by decide) (Below.size hq8.out) ?_
            intro vv V9 hOO hgg hk9
            obtain ⟨Ab, cb, rfl, -, -⟩ := hOO.form
            refine hK _ _ (fun _ => hk9) ?_
            clear hK K
            obtain ⟨m1, hm1⟩ : ∃ n, ([] ++ EL.take j ++ [tombE key mg]).length = n := ⟨_, rfl⟩
            rw [hm1] at hOO ⊢
            have hOF9 := Lib.hid hOO
            have hq9 : Hid (Gr w2 V9) := Lib.hid (Below.trans hq8.out hk9)
            have hm1' : Hid (m1 ≤ 131) := Lib.hid (by have := hla.out; rw [← hm1, List.length_append, this]; simp only [List.length_singleton]; omega)
            replace hm1 := Lib.hid hm1
            clear hOO hgg hk9 htq
            try simp only [List.getElem_toArray, List.getElem_cons_succ, List.getElem_cons_zero]
            try simp only [Act.put, List.setIfInBounds_toArray, List.set_cons_zero, List.set_cons_succ]
            refine wpR_one 13 rfl (by kernel_rfl) (by kernel_rfl) (fun K hK => ?_)
            refine wp_appF (.tmp 49) (.tmp 52) rfl w2.heap.size (.slice Ab m1 cb) ([] ++ EL.take j ++ [tombE key mg]) (EL.drop j) rfl hOF9.out _ (k - j) _ (by rw [List.length_drop, hlL.out]) rfl (FsV.gr hq9.out hDr).out.reads (OF.apt hDr.out hq9.out hOF9.out (Nat.le_refl _)) (by have := hm1'.out; have := hm1.out; omega) (by omega) (Below.size hq9.out) ?_
            intro vv V13 hOO hgg hk13
            obtain ⟨Ac, cc, rfl, -, -⟩ := hOO.form
            refine hK _ _ (fun _ => hk13) ?_
            clear hK K
            have hfs := Lib.hid hOO.fs
            obtain ⟨m2, hm2⟩ : ∃ n, ([] ++ EL.take j ++ [tombE key mg] ++ EL.drop j).length = n := ⟨_, rfl⟩
            rw [hm2] at hfs ⊢
            have hq13 : Hid (Gr w2 V13) := Lib.hid (Below.trans hq9.out hk13)
            replace hm2 := Lib.hid hm2
            clear hOO hgg hk13
            try simp only [List.getElem_toArray, List.getElem_cons_succ, List.getElem_cons_zero]
            try simp only [Act.put, List.setIfInBounds_toArray, List.set_cons_zero, List.set_cons_succ]
            refine wpR_take (i := 14) (v := ?_) (⟨fun x => Below.refl _ x, fun h1 h2 => h1.trans h2⟩) (some 11) rfl (by kernel_rfl) (by kernel_rfl) (by kernel_rfl) (by kernel_rfl) (by kernel_rfl) (fun _ _ _ h => h) (by kernel_rfl) (fun w' hw' => ?_) ?_
            rotate_left
            · go_simp; with_reducible rfl
            simp only [Act.put, List.setIfInBounds_toArray, List.set_cons_zero, List.set_cons_succ]
            refine wpR_done (by kernel_rfl) ?_ _
            go_wp2_with fail
            go_meet
            exact ⟨Ac, m2, cc, rfl, hfs, hq13⟩
      case rest =>
        obtain ⟨A9, m9, c9, rfl, hW9, hg9⟩ := hcut
        rename World => w9
        have hb9 := Lib.hid (bestV_any ([] ++ EL.take j ++ [tombE key mg] ++ EL.drop j) _ w9 hW9.out hok9 (by have := hlL.out; simp; omega))
        rw [hm9] at hb9
        have hlW := Lib.hid hm9
        clear hm9 s1 s2 s3 s4
        have hI9' := Lib.hid hI9
        clear hI9
        obtain ⟨WL, hWL⟩ : ∃ l, [] ++ EL.take j ++ [tombE key mg] ++ EL.drop j = l := ⟨_, rfl⟩
        rw [hWL] at hb9 hI9'
        replace hWL := Lib.hid hWL
        clear hlW hW9 hok9
        go_upto_region 10 with (go_at_call 10; go_must (refine hb9.out.mono ?_); clear hb9; rintro e wB ⟨A3, c3, Z3, rfl, hI3, hZ3, hg3⟩; replace hg3 := Lib.hid hg3)
        have hz3 := Lib.hid (hI3.out.uniq hI9'.out)
        have hgB : Hid (Gr w2 wB) := Lib.hid (hg9.out.trans hg3.out)
        have hZ2B := EsV.gr hgB.out hZ2
        obtain ⟨n3, hn3⟩ : ∃ n, Z3.length = n := ⟨_, rfl⟩
        rw [hn3] at hZ3 ⊢
        replace hn3 := Lib.hid hn3
        have hnm : n2 ≤ 1000000 := by
          have h1 := out_len hI2.out
          rw [List.length_map, hn2.out] at h1
          have h2 := cF_len EL
          have := hlL.out
          omega
        obtain ⟨w4, hw4⟩ : ∃ x, wB.alloc (.cells #[] 32) = x := ⟨_, rfl⟩
        have hg4 : Gr wB w4 := by rw [← hw4]; exact Gr.alloc _ _
        have hO4 : OZr [] (.slice (some ⟨wB.heap.size, 0, none⟩) 0 0) wB.heap.size w4 := ⟨⟨rfl, .inr ⟨wB.heap.size, 0, #[], rfl, Nat.le_refl _, by rw [← hw4]; exact heap_alloc_new wB _, Nat.le_refl _, Nat.zero_le _, rfl, rfl⟩⟩, fun x h => (by cases h)⟩
        replace hO4 := Lib.hid hO4
        replace hg4 := Lib.hid hg4
        go_upto_region 11 with (fail)
        replace hw4 := Lib.hid hw4
        go_wp2_with fail
        go_loopw [14, 15] (fun o u wr => ∃ (i m : Nat) (Aw : Option Addr) (cw : Nat), i ≤ n2 ∧ u = .int .i64 i ∧ o = .slice Aw m cw ∧ m ≤ i ∧ Hid (∃ L : List Ez, L.length = m ∧ L = (Z2.take i).filter (fun x => decide (x.e.key ≠ key)) ∧ OZr L (.slice Aw m cw) wB.heap.size wr) ∧ Hid (Gr wB wr)) (fun _ u _ => n2 - (intOf u).toNat)
        case atStart => exact ⟨0, 0, _, _, Nat.zero_le _, rfl, rfl, Nat.le_refl _, Lib.hid ⟨[], rfl, rfl, hO4.out⟩, hg4⟩
        case round =>
          obtain ⟨i, m, Aw, cw, hi, rfl, rfl, hmi, hLw, hgw⟩ := hrel
          clear hO4 hg4
          by_cases hlt : i < n2
          · have ii : (i : Int) < (n2 : Int) := by omega
            obtain ⟨x, hx⟩ : ∃ x, Z2[i]? = some x := ⟨_, List.getElem?_eq_getElem (by rw [hn2.out]; exact hlt)⟩
            obtain ⟨zb, zo, rfl, hzb, hzp, hzc⟩ := hZ2B.out.get hx
            obtain ⟨y0, y1, y2, y3, y4⟩ := hzc wr hgw.out
            have hts : Hid ((Z2.take (i + 1)).filter (fun x => decide (x.e.key ≠ key)) = (Z2.take i).filter (fun x => decide (x.e.key ≠ key)) ++ (if x.e.key = key then [] else [x])) := Lib.hid (by
              rw [List.take_add_one, hx, List.filter_append]
              congr 1
              by_cases hk9 : x.e.key = key
              · rw [if_pos hk9]; simp [hk9]
              · rw [if_neg hk9]; simp [hk9])
            obtain ⟨xe, hxe⟩ : ∃ y, y = x := ⟨_, rfl⟩
            rw [← hxe] at hts hx hzp
            obtain ⟨⟨xk, xg, xz, xu, xl⟩, xA, xc⟩ := x
            simp only at y0 y1 y2 y3 y4
            obtain ⟨xn, hxn⟩ : ∃ n, xl.length = n := ⟨_, rfl⟩
            rw [hxn] at y4
            have hxc : xe.cells.toArray = #[.string (bs xk), .int .i64 xg, .int .i64 xz, .string (bs xu), .slice xA xn xc] := by rw [hxe, ← hxn]; rfl
            have hxk : xe.e.key = xk := by rw [hxe]
            rw [hxk] at hts
            replace hxn := Lib.hid hxn
            replace hx := Lib.hid hx
            replace hxk := Lib.hid hxk
            replace hxe := Lib.hid hxe
            replace hzp := Lib.hid hzp
            clear hzc
            by_cases hk9 : xk = key
            · have hts2 := Lib.hid (hts.out.trans (by rw [if_pos hk9, List.append_nil]))
              clear hts
              subst hk9
              replace hxc := Lib.hid hxc
              go_wp2_with fail
              go_roundw
              case rel => exact ⟨i + 1, m, Aw, cw, by omega, by go_num, rfl, by omega, Lib.hid (by obtain ⟨L, h1, h2, h3⟩ := hLw.out; exact ⟨L, h1, h2.trans hts2.out.symm, h3⟩), hgw⟩
              case measure => simp [intOf]; omega
            · have hts2 := Lib.hid (hts.out.trans (by rw [if_neg hk9]))
              have hkb : (xk == key) = false := by rw [beq_eq_false_iff_ne]; exact hk9
              replace hk9 := Lib.hid hk9
              clear hts
              obtain ⟨L, hLl, hLe, hLo⟩ := hLw.out
              obtain ⟨W1, hW1⟩ : ∃ W1, wr.alloc (.cells #[.string (bs xk), .int .i64 xg, .int .i64 xz, .string (bs xu), .slice xA xn xc] 32) = W1 := ⟨_, rfl⟩
              have hgW : Gr wr W1 := by rw [← hW1]; exact Gr.alloc _ _
              have hrd : Hid (Reads W1 W1.heap.size 5 (some ⟨wr.heap.size, 0, none⟩) 1 xe.cells) := Lib.hid (by
                have h1 := Reads.ezLit wr xe
                rw [hxc, hW1] at h1
                exact h1)
              have hO1 : Hid (OZr L (.slice Aw m cw) wB.heap.size W1) := Lib.hid ⟨row_below hLo.row hgW, fun y hy B hB => by
                obtain ⟨w0, g1, g2, g3⟩ := hLo.vs y hy B hB
                exact ⟨w0, g1, g2, Below.trans g3 (Below.mono hgW (Below.size hgw.out))⟩⟩
              have hg1 : Hid (Gr wB W1) := Lib.hid (hgw.out.trans hgW)
              have hqq : Hid (∃ w0 : World, w0.heap.size ≤ wB.heap.size ∧ Pls xe.e.places (.slice xe.A xe.e.places.length xe.c) w0 ∧ Below wB.heap.size w0 W1) := Lib.hid ⟨wB, Nat.le_refl _, hzp.out, hg1.out⟩
              have hlm : L.length ≤ 1000000 := by omega
              have hbW : Hid (wB.heap.size ≤ W1.heap.size) := Lib.hid (Below.size hg1.out)
              replace hxc := Lib.hid hxc
              replace hLl := Lib.hid hLl
              replace hLe := Lib.hid hLe
              replace hLo := Lib.hid hLo
              replace hgW := Lib.hid hgW
              clear hLw
              go_wp2_with (at_builtin; (refine wpl_appZ rfl (.tmp 73) (.tmp 78) rfl wB.heap.size (.slice Aw m cw) L xe rfl hO1.out (some ⟨wr.heap.size, 0, none⟩) 1 rfl hrd.out hqq.out hlm hbW.out ?_); intro v3 W3 hO3 hb3; obtain ⟨A3w, c3w, rfl, -, -⟩ := row_form hO3.row; have hl3 : (L ++ [xe]).length = m + 1 := (by rw [List.length_append, hLl.out]; rfl); rw [hl3] at hO3 ⊢; replace hl3 := Lib.hid hl3; replace hO3 := Lib.hid hO3; have hgw3 : Hid (Gr wB W3) := Lib.hid (Below.trans hg1.out hb3); replace hb3 := Lib.hid hb3)
              go_roundw
              case rel => exact ⟨i + 1, m + 1, A3w, c3w, by omega, by go_num, rfl, by omega, Lib.hid ⟨_, hl3.out, by rw [hts2.out, hLe.out], hO3.out⟩, hgw3⟩
              case measure => simp [intOf]; omega
          · obtain rfl : i = n2 := by omega
            obtain ⟨L, hLl, hLe, hLo⟩ := hLw.out
            have hLz : Hid (L.map (fun x => x.e) = Z3.map (fun x => x.e)) := Lib.hid (by
              rw [hz3.out, hLe, List.take_of_length_le (by rw [hn2.out]; exact Nat.le_refl _), List.filter_map]
              rfl)
            have hmn : m = n3 := by
              have := congrArg List.length hLz.out
              rw [List.length_map, List.length_map, hn3.out, hLl] at this
              exact this
            subst hmn
            have hEs := Lib.hid hLo.es
            have hal7 : Hid (∀ x, Gr wr x → Calls Try.prog 13 #[.slice A3 m c3, .slice Aw m cw] x fun e w' => e = .returned (.bool true) ∧ Gr x w') := Lib.hid (fun x hx => alikeE_any (Z3.map (fun x => x.e)) Z3 L A3 c3 Aw cw m (by rw [List.length_map]; exact hn3.out) rfl hLz.out x (EsV.gr (hgw.out.trans hx) hZ3).out (EsV.gr hx hEs).out)
            replace hLl := Lib.hid hLl
            replace hLe := Lib.hid hLe
            replace hLo := Lib.hid hLo
            clear hLw
            go_wp2_with (first
              | (go_at_call 12; go_must (refine (hawk.out _).mono ?_); rintro e w8 ⟨rfl, hg8⟩; have hg8' := Lib.hid hg8; replace hg8 := Lib.hid hg8)
              | (go_at_call 13; go_must (refine (hal7.out _ hg8'.out).mono ?_); rintro e w9 ⟨rfl, hg9⟩; replace hg9 := Lib.hid hg9))
            go_ret
            exact ⟨rfl, hg2.out.trans (hgB.out.trans (hgw.out.trans (hg8'.out.trans hg9.out)))⟩
  · go_wp2_with (go_at_call 12; go_must (refine (hawk.out _).mono ?_); rintro e w8 ⟨rfl, hg8⟩; replace hg8 := Lib.hid hg8)
    all_goals (go_ret; exact ⟨rfl, hg8.out⟩)
theorem scanGone_str (E : List Fe) (v : Value) (s : ByteArray) (hs : s.size ≤ maxLen) (x : UInt8) (w : World) (hE : FsV E v w) (hok : ∀ x ∈ E, FOk x.f) : Calls Try.prog 6 #[v, .string s, .int .u8 (x.toNat : Nat)] w fun e w' => e = .returned (.bool true) ∧ Gr w w' := by
  have := scanGone_any E v s.data.toList (by simpa using hs) x.toNat (by have := x.toNat_lt; omega) w hE hok
  rw [show bs s.data.toList = s from by unfold bs; simp] at this
  exact this
end Go.Proofs.Ytiliggleplpjbaa
